import Derived.Test.YtdgmoiflahoihaaGreatDoorBDDw
import Derived.Test.YtdgmoiflahoihaaGreatDoorGWw

set_option linter.unusedSimpArgs false
set_option linter.unusedVariables false
set_option maxRecDepth 100000
set_option maxHeartbeats 8000000
namespace Go.Proofs.YtdgmoiflahoihaaGreatDoor
open Go.Proofs.Tryz
open Go.RowKit
def a3S(w:World)(a:Option Addr)(g:Nat)(l:List Ln):Prop:=∀i,∀hi:i<l.length,a=some ⟨g,0,none⟩∧g<w.heap.size∧
 w.cell? ⟨g,i*3,none⟩=some (.int .i64 l[i].place)∧w.cell? ⟨g,i*3+1,none⟩=some (.int .i64 l[i].val.num)∧w.cell? ⟨g,i*3+2,none⟩=some (.int .i64 l[i].val.fault)
theorem a3S.below{w w':World}{c:Option Addr}{g:Nat}{l:List Ln}(h:a3S w c g l)(a:B__ w w'):a3S w' c g l:=by
 intro i k;obtain⟨e,b,d,f,j⟩:=h i k;exact⟨e,Q_ b a.size,(a.cell (p:=(a__ g _)) b).trans d,(a.cell (p:=(a__ g _)) b).trans f,(a.cell (p:=(a__ g _)) b).trans j⟩
theorem b0C(l:List Ln):∀(i:Nat) (h:i<l.length),(a06 l)[i*3]? =some (i_ l[i].place)∧(a06 l)[i*3+1]? =some (i_ l[i].val.num)∧(a06 l)[i*3+2]? =some (i_ l[i].val.fault):=by
 induction l with
 |nil=>intro i h;cases h
 |cons p r ih=>
  intro i h;cases i with
  |zero=>simp[a06,a5y]
  |succ i=>
   have k:=ih i (by simpa using h);rw[show(i+1)*3=i*3+3 by omega];simpa[a06,a5y]using k
theorem b8U(l:List Ln):(a06 l).length=l.length*3:=by
 induction l with
 |nil=>rfl
 |cons p r ih=>simp[a06,a5y]at*;omega
theorem b3H{w:World}{b:Nat}{v:Value}{l:List Ln}(h:w.ownsRow b 89 3 v l.length (a06 l)):∃d g a,v= .slice d l.length a∧a3S w d g l:=by
 rcases h.2 with⟨rfl,f⟩|⟨g,a,e,rfl,m,o,n,p,j,q⟩
 ·exact⟨none,0,0,by rw[f],fun i c=>absurd c (by omega)⟩
 ·have k:=b8U l;refine⟨some (a__ g 0),g,a,rfl,fun i c=>⟨rfl,(h.lt g rfl).2,?_,?_,?_⟩⟩
  ·rw[h.cellAt (i*3) (by omega)];exact(b0C l i c).1
  ·rw[h.cellAt (i*3+1) (by omega)];exact(b0C l i c).2.1
  ·rw[h.cellAt (i*3+2) (by omega)];exact(b0C l i c).2.2
theorem b6u(l:List Ln)(r s:Option Addr)(g t z j:Nat)(w:World)(A:a3S w r g l)(B:a3S w s z l)(P:l.length≤3000000):
  Calls prog 63 #[.slice r l.length t,.slice s l.length j] w fun e w'=>e= .returned T__∧B__ w w':=by
 have u:Hid (a3S w r g l):=A;have y:Hid (a3S w s z l):=B;clear A B;have U:((l.length:Int) !=(l.length:Int))=false:=by simp
 go_enter func63,ntmps63;go_wp2_with fail;go_loopw [5] (fun x w'=>∃k:Nat,x=i_ k∧k≤l.length∧Hid (B__ w w')) (fun x _=>l.length-(intOf x).toNat);case atStart=>exact⟨0,rfl,by omega,g_ _ _⟩
 case round=>
  obtain⟨k,rfl,O,o⟩:=hrel;by_cases m:k<l.length
  ·have M:decide ((k:Int)<(l.length:Int))=true:=by simp;omega
   obtain⟨I,N,C,D,E⟩:=u.out.below o.out k m;obtain⟨J,L,F,G,H⟩:=y.out.below o.out k m;clear u y;subst I J;generalize l[k]=p at*;obtain⟨R,⟨S,T⟩⟩:=p;simp only at C D E F G H;go_upto_region 6 with fail;go_region;all_goals go_wp2_with fail
   all_goals go_roundw
   case rel=>exact⟨k+1,by go_num,by omega,o.out.drew⟩
   case measure=>simp[intOf];omega
  ·have M:decide ((k:Int)<(l.length:Int))=false:=by simp;omega
   go_wp2_with fail;go_ret;exact⟨rfl,o.out⟩
theorem c4A(w:World):(binOp BinOp.eql 82 (.slice none 0 0) (.slice none 0 0)).run prog w= .ok T__ w:=by
 have k:=run_eql_nil_slice (P:=prog) w 82 89 none 0 0 0 0 underlying82;simpa using k
theorem b3G:∀l:List Ln,l.length≤(a3Y l).length
 | []=>a_ _
 |x::r=>by
  have:=b3G r;simp only[a3Y,x_,B_];omega
theorem b8T{t:List UInt8}{l:List Ln}(h:a4B t=some l):l.length≤t.length:=by
 rw[(b0H.mp h).1];exact b3G l
theorem c2G(s:ByteArray)(w:World)(Y:s.size≤2000000):
  Calls prog 35 #[.string s] w fun e w'=>(∃v l,e= .returned (.tuple #[v,T__])∧w'.ownsRow w.heap.size 89 3 v l.length (a06 l))∧B__ w w':=by
 have G:Hid (∀w,Calls prog 39 #[.string s] w (a5M w (a4B s.data.toList))):=fun w=>b4N s w (by omega)
 have H:Hid (∀w,Calls prog 62 #[.string s] w (a4f w (a4B s.data.toList))):=fun w=>by have:=b7Z s w Y;rw[c4S]at this;exact this
 cases I:a4B s.data.toList with
 |none=>
  rw[I]at G H;have X:=c4A;go_enter func35,ntmps35;go_wp2_with (first|(go_at_call 39;refine(G.out _).mono ?_;rintro e F ⟨rfl,r⟩;have m:Hid (B__ w F):=r;clear r)|(go_at_call 62;refine(H.out _).mono ?_;rintro e z ⟨rfl,j⟩;have t:Hid (B__ w z):=m.out.trans (j.mono m.out.size);clear j));go_ret2;exact⟨⟨_,[],rfl,E_ ..⟩,t.out⟩
 |some l=>
  rw[I]at G H;have V:l.length≤3000000:=by
   have:=b8T I;have e:s.data.toList.length=s.size:=by simp
   omega
  clear I;go_enter func35,ntmps35;go_wp2_with (first|(go_at_call 39;refine(G.out _).mono ?_;rintro e F ⟨⟨Z,rfl,y⟩,r⟩;have O:Hid (F.ownsRow (w.heap.size+1) 89 3 Z l.length (a06 l)):=y;obtain⟨o,S,p,rfl,C⟩:=b3H y;have L:Hid (a3S F o S l):=C;have m:Hid (B__ w F):=r;clear r y C)|(go_at_call 62;refine(H.out _).mono ?_;rintro e z ⟨⟨v2,rfl,E⟩,j⟩;obtain⟨A,T,B,rfl,D⟩:=b3H E;have M:Hid (a3S z A T l):=D;have N:Hid (a3S z o S l):=L.out.below j;have P:Hid (z.ownsRow (w.heap.size+1) 89 3 (.slice o l.length p) l.length (a06 l)):=a1C O.out j (a_ _);have t:Hid (B__ w z):=m.out.trans (j.mono m.out.size);clear j E D)|(go_at_call 63;refine(b6u l o A S p T B _ N.out M.out V).mono ?_;rintro e U ⟨rfl,u⟩;have R:Hid (U.ownsRow (w.heap.size+1) 89 3 (.slice o l.length p) l.length (a06 l)):=a1C P.out u (a_ _);have J:Hid (B__ w U):=t.out.trans (u.mono t.out.size);clear u));go_ret2;exact⟨⟨_,l,rfl,a4w R.out (b_z _)⟩,J.out⟩
end Go.Proofs.YtdgmoiflahoihaaGreatDoor
