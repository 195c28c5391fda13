import Derived.Test.YtdgmoiflahoihaaGreatDoorAbw
import Derived.Test.YtdgmoiflahoihaaGreatDoorRows
import Derived.WalkSpells
import Derived.WalkLawsBesides
import Derived.Deep.Cut
import Derived.Deep.CutRange
import Derived.RegionTactic
import Derived.ProofKit

set_option linter.unusedSimpArgs false
set_option linter.unusedVariables false
set_option maxRecDepth 100000
set_option maxHeartbeats 8000000
namespace Go.Proofs.YtdgmoiflahoihaaGreatDoor
open Go.Proofs.Tryz
structure Ic where
 op:Int
 a:Int
 b:Int
 c:Int
def bel(a n:Int):Bool:=decide (0≤a)&&decide (a<n)
def a0I(x:Ic)(n:Int):Bool:=
 if x.op=0 then x.a==0&&x.b==0&&x.c==0
 else if x.op=1 then bel x.a 100&&x.c==0
 else if x.op=2∨x.op=3 then bel x.a 100&&bel x.b 100&&x.c==0
 else if 4≤x.op∧x.op≤10 then bel x.a 100&&bel x.b 100&&bel x.c 100
 else if x.op=11 then bel x.a 100&&bel x.b 26&&x.c==0
 else if x.op=12 then bel x.a n&&x.b==0&&x.c==0
 else if x.op=13 then bel x.a 100&&bel x.b n&&bel x.c n
 else if x.op=14∨x.op=15 then bel x.a 401&&bel x.b 16&&bel x.c 100
 else false
def a4A(x:Ic):Bool:=x.op==0||x.op==12
def a4e(n:Nat):List Ic→Nat→Int×Int
 | [],_=>(0,0)
 |x::r,k=>if a0I x n&&(!r.isEmpty||a4A x)then a4e n r (k+1)else(7,(k:Int))
def a0x(l:List Ic):Int×Int:=
 if 2000<l.length then(4,0)else if l.length=0 then(7,0)else a4e l.length l 0
def a4i(a n:Int):Int×Int×Int:=
 if a=0 then(1,1,1)else if a=1 then(100,0,1)else if a=2∨a=3 then(100,100,1)else if a=11 then(100,26,1)
 else if a=12 then(n,1,1)else if a=13 then(100,n,n)else if a=14∨a=15 then(401,16,100)else(100,100,100)
def a27(a n:Int):Bool:=n==0||bel a n
theorem a9V(a:Int):bel a 1=(a==0):=by
 unfold bel;rw[M_];simp;omega
theorem a2W{a n:Int}(h:n≠0):a27 a n=bel a n:=by
 unfold a27;simp[h]
theorem b8J(x:Ic)(n:Int)(o:n≠0):a0I x n=(decide (0≤x.op)&&decide (x.op≤15)&&a27 x.a (a4i x.op n).1&&a27 x.b (a4i x.op n).2.1&&a27 x.c (a4i x.op n).2.2):=by
 unfold a0I a4i;by_cases f:x.op=0
 ·simp[f,a2W,a9V]
 by_cases g:x.op=1
 ·simp[g,a2W,a9V,show a27 x.b 0=true from rfl]
 by_cases h:x.op=2∨x.op=3
 ·have d:decide (0≤x.op)=true:=by simp;omega
  have e:decide (x.op≤15)=true:=by simp;omega
  simp[f,g,h,d,e,a2W,a9V]
 by_cases i:4≤x.op∧x.op≤10
 ·have d:decide (0≤x.op)=true:=by simp;omega
  have e:decide (x.op≤15)=true:=by simp;omega
  have p:¬x.op=11:=by omega
  have q:¬x.op=12:=by omega
  have r:¬x.op=13:=by omega
  have s:¬(x.op=14∨x.op=15):=by omega
  simp only[f,g,h,i,d,e,p,q,r,s,a_g,and_self,a_b,a_J,a2W (show(100:Int)≠0 by decide)]
 by_cases j:x.op=11
 ·simp[j,a2W,a9V]
 by_cases k:x.op=12
 ·simp[k,a2W,a9V,a2W o]
 by_cases l:x.op=13
 ·simp[l,a2W,a2W o]
 by_cases m:x.op=14∨x.op=15
 ·have d:decide (0≤x.op)=true:=by simp;omega
  have e:decide (x.op≤15)=true:=by simp;omega
  simp only[f,g,h,i,j,k,l,m,d,e,a_g,a_b,a_J,a2W (show(100:Int)≠0 by decide),a2W (show(401:Int)≠0 by decide),a2W (show(16:Int)≠0 by decide)]
 ·have d:(decide (0≤x.op)&&decide (x.op≤15))=false:=by
   simp only[b_h,N_];omega
  simp only[f,g,h,i,j,k,l,m,d,a_g,a_W]
theorem b0Z{n:Nat}{l:List Ic}{k:Nat}(b:k<l.length)(h:a0I l[k] n=true)(a:k+1<l.length∨a4A l[k]=true):a4e n (l.drop k) k=a4e n (l.drop (k+1)) (k+1):=by
 rw[u_ b];have e:(!(l.drop (k+1)).isEmpty||a4A l[k])=true:=by
  rcases a with a|a
  ·have:(l.drop (k+1)).isEmpty=false:=by
    rw[List.isEmpty_eq_false_iff];intro c;rw[List.drop_eq_nil_iff]at c;omega
   rw[this];rfl
  ·rw[a];simp
 show(if a0I l[k] n&&(!(l.drop (k+1)).isEmpty||a4A l[k])then _ else _)=_;rw[h,e];rfl
theorem b6a{n:Nat}{l:List Ic}{k:Nat}(a:k<l.length)(h:a0I l[k] n=false):a4e n (l.drop k) k=(7,(k:Int)):=by
 rw[u_ a];show(if a0I l[k] n&&_ then _ else _)=_;rw[h];rfl
theorem b6b{n:Nat}{l:List Ic}{k:Nat}(a:k+1=l.length)(h:a4A l[k]=false):a4e n (l.drop k) k=(7,(k:Int)):=by
 rw[u_ (by omega)];have:l.drop (k+1)= []:=by rw[List.drop_eq_nil_iff];omega
 rw[this];show(if a0I l[k] n&&(!true||a4A l[k])then _ else _)=_;rw[h];simp
open Go.RowKit
@[reducible] def a0O(x:Ic):Array Value:= #[.int .i64 x.op,.int .i64 x.a,.int .i64 x.b,.int .i64 x.c]
@[reducible] def icV(x:Ic):Value:= .agg (a0O x)
def a0D(w:World)(d:Option Addr)(g o:Nat)(l:List Ic):Prop:=∀i,∀hi:i<l.length,d=some ⟨g,o,none⟩∧g<w.heap.size∧
 w.cell? ⟨g,o+i*4,none⟩=some (.int .i64 l[i].op)∧w.cell? ⟨g,o+i*4+1,none⟩=some (.int .i64 l[i].a)∧w.cell? ⟨g,o+i*4+2,none⟩=some (.int .i64 l[i].b)∧w.cell? ⟨g,o+i*4+3,none⟩=some (.int .i64 l[i].c)
theorem a0D.below{w w':World}{c:Option Addr}{g o:Nat}{l:List Ic}(h:a0D w c g o l)(a:B__ w w'):a0D w' c g o l:=by
 intro i m;obtain⟨e,b,d,f,j,k⟩:=h i m;exact⟨e,Q_ b a.size,(a.cell (p:=(a__ g _)) b).trans d,(a.cell (p:=(a__ g _)) b).trans f,(a.cell (p:=(a__ g _)) b).trans j,(a.cell (p:=(a__ g _)) b).trans k⟩
def a0Q:List Ic→List Value
 | []=> []
 |x::r=> .int .i64 x.op:: .int .i64 x.a:: .int .i64 x.b:: .int .i64 x.c::a0Q r
theorem a3W(l:List Ic):(a0Q l).length=l.length*4:=by
 induction l with
 |nil=>rfl
 |cons x r ih=>simp only[a0Q,B_,ih];omega
theorem a6P(l:List Ic):∀(i:Nat) (h:i<l.length),(a0Q l)[i*4]? =some (i_ l[i].op)∧(a0Q l)[i*4+1]? =some (i_ l[i].a)∧(a0Q l)[i*4+2]? =some (i_ l[i].b)∧(a0Q l)[i*4+3]? =some (i_ l[i].c):=by
 induction l with
 |nil=>intro i h;cases h
 |cons p r ih=>
  intro i h;cases i with
  |zero=>simp[a0Q]
  |succ i=>
   have k:=ih i (by simpa using h);rw[show(i+1)*4=i*4+4 by omega];simpa[a0Q]using k
theorem b5u(l:List Ic):∀v∈a0Q l,v.oneCell'=true:=by
 induction l with
 |nil=>intro v h;cases h
 |cons x r ih=>
  intro v h;simp only[a0Q,X_]at h;rcases h with rfl|rfl|rfl|rfl|h
  ·rfl
  ·rfl
  ·rfl
  ·rfl
  ·exact ih v h
theorem b4v:(prog.info? 87).map (fun i=>(i.zero,i.size,i.bytes))=some (some (.agg #[i_ 0,i_ 0,i_ 0,i_ 0]),4,32):=by kernel_rfl
theorem a4H(a n:Int)(w:World):
  Calls prog 91 #[i_ a,i_ n] w fun e w'=>e= .returned (.bool (a27 a n))∧w'=w:=by
 go_enter func91,ntmps91
 go_wp2
 all_goals go_ret
 all_goals (refine⟨?_,rfl⟩;simp[a27,bel, *];try omega)
def a6U(o n:Int):Value:= .tuple #[.int .i64 (a4i o n).1,.int .i64 (a4i o n).2.1,.int .i64 (a4i o n).2.2]
theorem c1q(o n:Int)(w:World)(a:o=0∨o=1∨o=2∨o=3∨o=11∨o=12∨o=13∨o=14∨o=15):Calls prog 90 #[i_ o,i_ n] w fun e w'=>e= .returned (a6U o n)∧w'=w:=by
 rcases a with rfl|rfl|rfl|rfl|rfl|rfl|rfl|rfl|rfl
 all_goals (
  go_enter func90,ntmps90
  go_wp2
  exact m_ (v:=a6U _ n) (by simp[results,results90,go_sem,a6U,a4i]) rfl ⟨rfl,rfl⟩)
theorem c1r(o n:Int)(w:World)(l:¬(o=0∨o=1∨o=2∨o=3∨o=11∨o=12∨o=13∨o=14∨o=15)):Calls prog 90 #[i_ o,i_ n] w fun e w'=>e= .returned (a6U o n)∧w'=w:=by
 have g:a6U o n= .tuple #[i_ 100,i_ 100,i_ 100]:=by
  unfold a6U a4i;rw[f_ (by omega),f_ (by omega),f_ (by omega),f_ (by omega),f_ (by omega),f_ (by omega),f_ (by omega)]
 have h:(o==0)=false:=by simp;omega
 have i:(o==1)=false:=by simp;omega
 have j:(o==2)=false:=by simp;omega
 have k:(o==3)=false:=by simp;omega
 have a:(o==11)=false:=by simp;omega
 have b:(o==12)=false:=by simp;omega
 have c:(o==13)=false:=by simp;omega
 have d:(o==14)=false:=by simp;omega
 have f:(o==15)=false:=by simp;omega
 go_enter func90,ntmps90
 go_wp2
 rw[g];exact m_ (v:= .tuple #[i_ 100,i_ 100,i_ 100]) (by simp[results,results90,go_sem]) rfl ⟨rfl,rfl⟩
theorem a4a(o n:Int)(w:World):Calls prog 90 #[i_ o,i_ n] w fun e w'=>e= .returned (a6U o n)∧w'=w:=by
 by_cases h:o=0∨o=1∨o=2∨o=3∨o=11∨o=12∨o=13∨o=14∨o=15
 ·exact c1q o n w h
 ·exact c1r o n w h
theorem c1e(l:List Ic)(b:Option Addr)(a:Nat)(w:World)(h:2000<l.length):
  Calls prog 58 #[.slice b l.length a] w fun e w'=>e= .returned (.tuple #[i_ (a0x l).1,i_ (a0x l).2])∧B__ w w':=by
 have c:a0x l=(4,0):=by unfold a0x;rw[n_ h]
 have d:decide ((2000:Int)<(l.length:Int))=true:=by simp;omega
 rw[c];go_enter func58,ntmps58;go_wp2_with fail;go_ret2;exact⟨rfl,g_ _ _⟩
theorem c1f(l:List Ic)(b:Option Addr)(a:Nat)(w:World)(h:l.length=0):
  Calls prog 58 #[.slice b l.length a] w fun e w'=>e= .returned (.tuple #[i_ (a0x l).1,i_ (a0x l).2])∧B__ w w':=by
 have c:a0x l=(7,0):=by unfold a0x;rw[f_ (by omega),n_ h]
 rw[c,h];go_enter func58,ntmps58;go_wp2_with fail;go_loopw [4] (fun x w'=>x=i_ 0∧w'=w) (fun _ _=>0);case atStart=>exact⟨rfl,rfl⟩
 case round=>
  obtain⟨rfl,rfl⟩:=hrel;go_wp2_with fail;go_ret2;exact⟨rfl,g_ _ _⟩
theorem c1g(l:List Ic)(g o:Nat)(R:Nat)(w:World)(m:Nat)(hm:l.length=m+1)(hl:m<2000)(hc:a0D w (some (a__ g o)) g o l):
  Calls prog 58 #[.slice (some (a__ g o)) (m+1) R] w fun e w'=>e= .returned (.tuple #[i_ (a0x l).1,i_ (a0x l).2])∧B__ w w':=by
 have hv:a0x l=a4e l.length (l.drop 0) 0:=by unfold a0x;rw[f_ (by omega),f_ (by omega)];rfl
 have t1:decide ((2000:Int)<(m:Int)+1)=false:=by simp;omega
 have t2:((m:Int)+1==0)=false:=by rw[p_];omega
 generalize hy:a0x l=y at*;have HY:=h__ hv.symm;have X:=h__ hc;clear hy hv hc;go_enter func58,ntmps58;go_wp2_with fail;go_loopw [4] (fun x w'=>∃k:Nat,x=i_ k∧k≤m+1∧Hid (B__ w w')∧Hid (a4e l.length (l.drop k) k=y)) (fun x _=>m+1-(intOf x).toNat);case atStart=>exact⟨0,rfl,by omega,g_ _ _,HY⟩
 case round=>
  obtain⟨k,rfl,hk,E,H⟩:=hrel;have Ac:w.heap.size≤wr.heap.size:=E.out.size;by_cases Ab:k<m+1
  ·have tk:decide ((k:Int)<(m:Int)+1)=true:=by simp;omega
   have C:k<l.length:=by omega
   obtain⟨_,N,Y,Z,c2,c3⟩:=X.out k C;rw[←E.out.cell (p:=(a__ g (o+k*4))) N]at Y;rw[←E.out.cell (p:=(a__ g (o+k*4+1))) N]at Z;rw[←E.out.cell (p:=(a__ g (o+k*4+2))) N]at c2;rw[←E.out.cell (p:=(a__ g (o+k*4+3))) N]at c3;have D:(l.length:Int)=(m:Int)+1:=by omega
   have a:=b8J l[k] l.length (by omega);rw[D]at a
   -- what follows from each outcome
   have b:Hid (a0I l[k] ((m:Int)+1)=false→(7,(k:Int))=y):=fun A=>(b6a C (by rw[D];exact A)).symm.trans H.out
   have c:Hid (k=m→a4A l[k]=false→(7,(k:Int))=y):=fun Aa he=>(b6b (by omega) he).symm.trans H.out
   have d:Hid (a0I l[k] ((m:Int)+1)=true→(k<m∨a4A l[k]=true)→a4e l.length (l.drop (k+1)) (k+1)=y):=fun A h2=>(b0Z C (by rw[D];exact A) (h2.imp (fun h=>by omega) id)).symm.trans H.out
   generalize l[k]=p at*;obtain⟨q,L,O,V⟩:=p;simp only at Y Z c2 c3 a;unfold a4A at c d;simp only at c d;clear H X C D;have T:(a6U q ((m:Int)+1))= .tuple #[i_ (a4i q ((m:Int)+1)).1,i_ (a4i q ((m:Int)+1)).2.1,i_ (a4i q ((m:Int)+1)).2.2]:=rfl;generalize (a4i q ((m:Int)+1))=bn at*;obtain⟨I,M,P⟩:=bn;simp only at a T;have t:Hid (∀ob,B__ w (wr.alloc ob)):=fun ob=>E.out.alloc (by omega) _
   have s:((k:Int)+1==(m:Int)+1)=false∧((k:Int)==(m:Int))=false∧Hid (k<m)∨((k:Int)+1==(m:Int)+1)=true∧((k:Int)==(m:Int))=true∧Hid (k=m)∧(q !=0)=false∨((k:Int)+1==(m:Int)+1)=true∧((k:Int)==(m:Int))=true∧Hid (k=m)∧(q !=0)=true∧(q !=12)=false∨((k:Int)+1==(m:Int)+1)=true∧((k:Int)==(m:Int))=true∧Hid (k=m)∧(q !=0)=true∧(q !=12)=true:=by
    unfold Hid;simp only[p_,b_k,ne_eq,bne_iff_ne,bne_eq_false_iff_eq];omega
   have U:decide (0≤q)=false∨decide (0≤q)=true∧decide (q≤15)=false∨decide (0≤q)=true∧decide (q≤15)=true∧a27 L I=false∨decide (0≤q)=true∧decide (q≤15)=true∧a27 L I=true∧a27 O M=false∨decide (0≤q)=true∧decide (q≤15)=true∧a27 L I=true∧a27 O M=true∧a27 V P=false∨decide (0≤q)=true∧decide (q≤15)=true∧a27 L I=true∧a27 O M=true∧a27 V P=true:=by
    cases decide (0≤q)<;>cases decide (q≤15)<;>cases a27 L I<;>cases a27 O M<;>cases a27 V P<;>simp
   rcases U with z|⟨z,B⟩|⟨z,B,F⟩|⟨z,B,F,J⟩|⟨z,B,F,J,S⟩|⟨z,B,F,J,S⟩
   ·rw[z]at a;simp only[a_W,a_J]at a;have i:Hid _:=b.out a;clear a d c b;rcases s with⟨j,n,f⟩|⟨j,n,f,r⟩|⟨j,n,f,r,v⟩|⟨j,n,f,r,v⟩
    all_goals (
     go_wp2_with (first|(go_at_call 90;refine(a4a _ _ _).mono ?_;rintro e u ⟨rfl,rfl⟩)|(go_at_call 91;refine(a4H _ _ _).mono ?_;rintro e u ⟨rfl,rfl⟩));rw[←i.out];go_ret2;exact⟨rfl,t.out _⟩)
   ·rw[z,B]at a;simp only[a_W,a_J]at a;have i:Hid _:=b.out a;clear a d c b;rcases s with⟨j,n,f⟩|⟨j,n,f,r⟩|⟨j,n,f,r,v⟩|⟨j,n,f,r,v⟩
    all_goals (
     go_wp2_with (first|(go_at_call 90;refine(a4a _ _ _).mono ?_;rintro e u ⟨rfl,rfl⟩)|(go_at_call 91;refine(a4H _ _ _).mono ?_;rintro e u ⟨rfl,rfl⟩));rw[←i.out];go_ret2;exact⟨rfl,t.out _⟩)
   ·rw[z,B,F]at a;simp only[a_W,a_J]at a;have i:Hid _:=b.out a;clear a d c b;rcases s with⟨j,n,f⟩|⟨j,n,f,r⟩|⟨j,n,f,r,v⟩|⟨j,n,f,r,v⟩
    all_goals (
     go_wp2_with (first|(go_at_call 90;refine(a4a _ _ _).mono ?_;rintro e u ⟨rfl,rfl⟩)|(go_at_call 91;refine(a4H _ _ _).mono ?_;rintro e u ⟨rfl,rfl⟩));rw[←i.out];go_ret2;exact⟨rfl,t.out _⟩)
   ·rw[z,B,F,J]at a;simp only[a_W,a_J]at a;have i:Hid _:=b.out a;clear a d c b;rcases s with⟨j,n,f⟩|⟨j,n,f,r⟩|⟨j,n,f,r,v⟩|⟨j,n,f,r,v⟩
    all_goals (
     go_wp2_with (first|(go_at_call 90;refine(a4a _ _ _).mono ?_;rintro e u ⟨rfl,rfl⟩)|(go_at_call 91;refine(a4H _ _ _).mono ?_;rintro e u ⟨rfl,rfl⟩));rw[←i.out];go_ret2;exact⟨rfl,t.out _⟩)
   ·rw[z,B,F,J,S]at a;simp only[a_W,a_J]at a;have i:Hid _:=b.out a;clear a d c b;rcases s with⟨j,n,f⟩|⟨j,n,f,r⟩|⟨j,n,f,r,v⟩|⟨j,n,f,r,v⟩
    all_goals (
     go_wp2_with (first|(go_at_call 90;refine(a4a _ _ _).mono ?_;rintro e u ⟨rfl,rfl⟩)|(go_at_call 91;refine(a4H _ _ _).mono ?_;rintro e u ⟨rfl,rfl⟩));rw[←i.out];go_ret2;exact⟨rfl,t.out _⟩)
   ·rw[z,B,F,J,S]at a;simp only[a_J]at a;rcases s with⟨j,n,f⟩|⟨j,n,f,r⟩|⟨j,n,f,r,v⟩|⟨j,n,f,r,v⟩
    ·have G:Hid _:=d.out a (.inl f.out);clear a d c b;go_wp2_with (first|(go_at_call 90;refine(a4a _ _ _).mono ?_;rintro e u ⟨rfl,rfl⟩)|(go_at_call 91;refine(a4H _ _ _).mono ?_;rintro e u ⟨rfl,rfl⟩));go_roundw;case rel=>exact⟨k+1,by go_num,by omega,t.out _,G⟩
     case measure=>simp[intOf];omega
    ·have G:Hid _:=d.out a (.inr (by simp at r;simp[r]));clear a d c b;go_wp2_with (first|(go_at_call 90;refine(a4a _ _ _).mono ?_;rintro e u ⟨rfl,rfl⟩)|(go_at_call 91;refine(a4H _ _ _).mono ?_;rintro e u ⟨rfl,rfl⟩));go_roundw;case rel=>exact⟨k+1,by go_num,by omega,t.out _,G⟩
     case measure=>simp[intOf];omega
    ·have G:Hid _:=d.out a (.inr (by simp at v;simp[v]));clear a d c b;go_wp2_with (first|(go_at_call 90;refine(a4a _ _ _).mono ?_;rintro e u ⟨rfl,rfl⟩)|(go_at_call 91;refine(a4H _ _ _).mono ?_;rintro e u ⟨rfl,rfl⟩));go_roundw;case rel=>exact⟨k+1,by go_num,by omega,t.out _,G⟩
     case measure=>simp[intOf];omega
    ·have i:Hid _:=c.out f.out (by simp at r v;simp[r,v]);clear a d c b;go_wp2_with (first|(go_at_call 90;refine(a4a _ _ _).mono ?_;rintro e u ⟨rfl,rfl⟩)|(go_at_call 91;refine(a4H _ _ _).mono ?_;rintro e u ⟨rfl,rfl⟩));rw[←i.out];go_ret2;exact⟨rfl,t.out _⟩
  ·have tk:decide ((k:Int)<(m:Int)+1)=false:=by simp;omega
   have HE:Hid ((0,0)=y):=by
    have:=H.out;rw[List.drop_eq_nil_of_le (by omega)]at this;exact this
   go_wp2_with fail;rw[←HE.out];go_ret2;exact⟨rfl,E.out⟩
theorem a5Z(l:List Ic)(b:Option Addr)(g o a:Nat)(w:World)(c:a0D w b g o l):
  Calls prog 58 #[.slice b l.length a] w fun e w'=>e= .returned (.tuple #[i_ (a0x l).1,i_ (a0x l).2])∧B__ w w':=by
 by_cases h:2000<l.length
 ·exact c1e l b a w h
 by_cases d:l.length=0
 ·exact c1f l b a w d
 ·obtain⟨rfl,_⟩:=c 0 (by omega);have:=c1g l g o a w (l.length-1) (by omega) (by omega) c;rwa[show l.length-1+1=l.length by omega]at this
end Go.Proofs.YtdgmoiflahoihaaGreatDoor
