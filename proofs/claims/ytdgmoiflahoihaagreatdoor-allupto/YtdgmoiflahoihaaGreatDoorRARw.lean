import Derived.Test.YtdgmoiflahoihaaGreatDoorRAPw
import Derived.Test.YtdgmoiflahoihaaGreatDoorLRPw

set_option linter.unusedSimpArgs false
set_option linter.unusedVariables false
set_option maxRecDepth 100000
set_option maxHeartbeats 8000000
namespace Go.Proofs.YtdgmoiflahoihaaGreatDoor
open Go.Proofs.Tryz
open Go.RowKit
theorem c2W{t:List UInt8}{fs:List Int}(c:(a0s t).1=0)(q:a3I fs):∃(B:Nat) (a:List Int),t.length≤400∧a2U (a0a t)=some B∧B≤(a0a t).length∧a4j (a0a t) B ((a0a t).length+1) 0=some a∧(∀n∈a,0≤n∧n<26)∧a.length≤1000∧
  (a.length≠fs.length→a1L t fs=(6,[]))∧(a.length=fs.length→∃g,a2n (a0a t) (atL t 0) ((a0a t).length+1) B (a0a t).length (a6y a fs a1x,[])=some g∧a1L t fs=(0,g.2)∧g.2.length≤5000):=by
 obtain⟨h,i,_⟩:=a5P c;obtain⟨_,B,j,o,p⟩:=(a6k t).2 i;have m:=a5j j;have f:=b5e (a0t t).2 0 ((a0a t).length+1) o (by omega);have l:=a24 h i;have k:(List.filter (fun x=>x.field) (a0t t).2).length=a1s (a0t t).2:=rfl;refine⟨B,_,h,j,m,f,fun n r=> ?_,?_,fun b=> ?_,fun d=> ?_⟩
 ·obtain⟨x,s,rfl⟩:=b_m.mp r;have:=l.heads x (List.mem_filter.mp s).1;exact⟨this.1,this.2.1⟩
 ·rw[a_Z];exact K_ (b_g _ _) l.few
 ·rw[a_Z,k]at b;unfold a1L;rw[f_ (by simpa using c),n_ (fun e=>b e.symm)]
 ·rw[a_Z,k]at d;refine⟨_,b4x 9 _ B _ _ _ p (a_ _) (by omega),?_,?_⟩
  ·unfold a1L;rw[f_ (by simpa using c),f_ (by simpa using d.symm),a6z]
  ·have:=b0Q t fs q;unfold a1L at this;rw[f_ (by simpa using c),f_ (by simpa using d.symm)]at this;rw[a6z];exact this
theorem c0Z(s:ByteArray)(fs:List Int)(p:Option Addr)(u of j:Nat)(w:World)(B:s.size≤maxLen)(z:a0u w p u of fs)(A:fs.length≤9223372036854775807)(m:a3I fs)(h:(a0s s.data.toList).1≠0):
  Calls prog 21 #[.string s,.slice p fs.length j] w (a3w w (a1L s.data.toList fs)):=by
 have r:a1L s.data.toList fs=((a0s s.data.toList).1,[]):=by unfold a1L;rw[n_ h]
 rw[r];have o:Hid (Calls prog 43 #[.string s] w fun e C=>e= .returned (.tuple #[i_ (a0s s.data.toList).1,i_ (a0s s.data.toList).2])∧B__ w C):=a4y s w _ B (a7u _);generalize a0s s.data.toList=y at*;obtain⟨D,F⟩:=y;simp only at o h⊢;have t:(D !=0)=true:=by simpa using h
 clear r z m;go_enter func21,ntmps21;go_wp2_with (go_at_call 43;refine o.out.mono ?_;rintro e E ⟨rfl,l⟩);go_ret2;exact⟨⟨_,rfl,fun _=>rfl,E_ ..⟩,l⟩
theorem b9b{n x:Int}{r g:List Int}{a:List Vl} :a6y (n::r) (x::g) a=a6y r g (a.set n.toNat ⟨x,0⟩):=rfl
theorem c2K(s:ByteArray)(fs:List Int)(af:Option Addr)(gf of Aj:Nat)(w:World)(hs:s.size≤maxLen)(hf:a0u w af gf of fs)(AO:fs.length≤9223372036854775807)(V:a3I fs)(h:(a0s s.data.toList).1=0):
  Calls prog 21 #[.string s,.slice af fs.length Aj] w (a3w w (a1L s.data.toList fs)):=by
 obtain⟨B,p,AL,hb,hB,Ao,J,AT,Y,U⟩:=c2W h V;have AV:s.data.toList.length=s.size:=by simp
 have HC:Hid (Calls prog 43 #[.string s] w fun e w'=>e= .returned (.tuple #[i_ 0,i_ (a0s s.data.toList).2])∧B__ w w'):=by
  have:=a4y s w _ hs (a7u _);rw[h]at this;exact this
 have Af:Hid (∀w,_):=fun w=>a81 s w (by omega)
 have AS:=a4F s.data.toList;generalize a0a s.data.toList=C at*;generalize atL s.data.toList 0=A at*;generalize (a0s s.data.toList).2=y2 at*;generalize a1L s.data.toList fs=RP at*;have HB:Hid (a2U C=some B):=hb;have Ac:=h__ Ao;have Ay:Hid (∀n∈p,0≤n∧n<26):=J;have HF:Hid (a0u w af gf of fs):=hf;have Aw:Hid (a3I fs):=V;clear hb Ao J hf V h;by_cases H:p.length=fs.length
 ·obtain⟨s',hp,Ar,AU⟩:=U H;have tn:((p.length:Int) !=(fs.length:Int))=false:=by simp[H]
  have HP:=h__ hp;have S:Hid (RP=(0,s'.2)):=Ar;clear Y U hp Ar;go_enter func21,ntmps21;go_upto_region 9 with(first|(go_at_call 43;refine HC.out.mono ?_;rintro e1 t ⟨rfl,E⟩;have u:Hid (B__ w t):=E;clear E)|(go_at_call 44;refine(Af.out _).mono ?_;rintro e2 w2 ⟨rfl,F,o⟩;have y:Hid (B__ t w2):=F;have M:Hid (a0A w2 t.heap.size C A):=o;clear F o)|(go_at_call 45;refine(b3q t.heap.size B (C.length+1) C A p _ M.out HB.out hB Ac.out).mono ?_;rintro e3 j ⟨⟨AI,rfl,L⟩,G⟩;obtain⟨an,gn,cn,rfl,r⟩:=b5M L;have z:Hid (B__ w2 j):=G;have Ae:Hid (a0u j an gn 0 p):=r;clear G r L));have s1:=u.out.size;have s2:=y.out.size;have s3:=z.out.size;rw[b8f];have Al:=b51 j 104;have D:B__ w j:=(u.out.trans (y.out.mono s1)).trans (z.out.mono (by omega));have Aa:Hid (B__ w j):=D;have O:Hid (a0A j t.heap.size C A):=M.out.below z.out;have Av:Hid (a0u j af gf of fs):=HF.out.below D;have Ak:B__ j (j.alloc (.cells b0U.toArray 104)):=(g_ _ _).alloc (a_ _) _;have AM:(j.alloc (.cells b0U.toArray 104)).heap.size=j.heap.size+1:=by simp
  generalize AF:j.alloc (.cells b0U.toArray 104)=T at*;have Ab:Hid (B__ j T):=Ak;have AC:Hid (a0y j.heap.size (fun _=>False) T T (a1x,[])):=a0y.still Al (g_ _ _);have AA:Hid (a1h (a1x,[])):=⟨rfl,fun v hv=>by have:=a_G hv;rw[this];exact a99⟩
  have Ap:j.heap.size<T.heap.size:=by omega
  have An:(0:Int)≤0:=by omega
  clear Al D AF Ak An;go_wp2_with fail;go_loopw [11] (fun x w'=>∃(k:Nat) (N:List Vl),x=i_ k∧k≤fs.length∧Hid (a6y (p.drop k) (fs.drop k) N=a6y p fs a1x)∧Hid (a1h (N,[]))∧Hid (a0y j.heap.size (fun _=>False) T w' (N,[]))) (fun x _=>fs.length-(intOf x).toNat);case atStart=>exact⟨0,a1x,rfl,by omega,rfl,AA,AC⟩
  case round=>
   obtain⟨k,N,rfl,hk,Ai,R,m⟩:=hrel;have l:B__ j wr:=Ab.out.trans (m.out.onto.below Ap (fun _ h=>h.elim));have Ad:Hid (B__ j wr):=l;have AR:j.heap.size<wr.heap.size:=m.out.state.lt;by_cases X:k<fs.length
   ·have tk:decide ((k:Int)<(fs.length:Int))=true:=by simp;omega
    have I:k<p.length:=by omega
    obtain⟨rfl,AQ,r⟩:=Ae.out.below l k I;obtain⟨rfl,AP,AN⟩:=Av.out.below l k X;obtain⟨n0,AZ⟩:=Ay.out p[k] (P_ I);have Ah:Hid (a6y (p.drop (k+1)) (fs.drop (k+1)) (N.set p[k].toNat ⟨fs[k],0⟩)=a6y p fs a1x):=by
     have:=Ai.out;rw[u_ I,u_ X,b9b]at this;exact this
    have AG:=Aw.out fs[k] (P_ X);generalize fs[k]=x at*;generalize p[k]=n at*;obtain⟨P,rfl⟩:∃P:Nat,n=P:=⟨n.toNat,by omega⟩
    rw[W_]at Ah;have J:P<26:=by omega
    have Az:Hid (a1h (N.set P ⟨x,0⟩,[])):=R.out.set ⟨AG,by simp,by simp⟩ P [];obtain⟨e0,e1⟩:=m.out.state.cell P J;have fz:=m.out.state.fz;have AX:(0:Int)≤(k:Int):=by omega
    have AY:(k:Int)<(fs.length:Int):=by omega
    rw[a_m]at r;clear l;go_wp2_with fail;go_region;all_goals go_wp2_with fail
    all_goals go_roundw
    all_goals first|(case rel=>exact⟨k+1,N.set P ⟨x,0⟩,by go_num,by omega,Ah,Az,⟨((m.out.state.set R.out.len P J ⟨x,0⟩).drew),(((m.out.onto).setCell _ _).setCell _ _).drew⟩⟩)|skip
    all_goals (simp[intOf];omega)
   ·have tk:decide ((k:Int)<(fs.length:Int))=false:=by simp;omega
    have AE:Hid (N=a6y p fs a1x):=by
     have:=Ai.out;rw[C_ (by omega),C_ (by omega)]at this;exact this
    have Am:=O.out.below l;have Au:Hid (a0A wr t.heap.size C A):=Am;obtain⟨_,_,ac,aa,bc,ba,AK,AJ,q0,q1,hc,ha⟩:=Am;have AB:Hid (b4Q t.heap.size j.heap.size j B C.length (N,[]) s'):=c4Q t.heap.size j.heap.size C A j O.out (a_ _) _ B C.length _ s' (by rw[AE.out];exact HP.out) R.out (by omega) (by omega) (by omega);have AD:Hid (∀i,(False∨T.heap.size≤i)→j.heap.size<i):=fun i hi=>by
     rcases hi with hi|hi
     ·exact hi.elim
     ·omega
    clear hc ha l;go_wp2_with fail;go_region_with (first|(go_at_call 47;refine(a4g t.heap.size B C A _ (Au.out.below (by first|exact(g_ _ _).drew|exact g_ _ _)) HB.out).mono ?_;rintro x1 w5 ⟨rfl,At⟩;rw[At];clear At)|(go_at_call 46;refine(AB.out _ _ (by exact Ad.out.drew) m.out.state.drew AD.out).mono ?_;rintro x1 w6 ⟨rfl,Z⟩;obtain⟨vn,AW,AH,_⟩:=Z.state.row;have Ag:=h__ Z;clear Z));all_goals (
     have As:a0y j.heap.size (fun _=>False) T w6 s':=m.out.trans (Ag.out.pre ((g_ _ _).drew));have Aq:B__ j w6:=Ab.out.trans (As.onto.below Ap (fun _ h=>h.elim));have Ax:Hid (B__ w w6):=Aa.out.trans (Aq.mono (by omega));clear As Aq Ag;go_wp2_with fail;go_ret2;rw[S.out];exact⟨⟨vn,rfl,fun hx=>absurd rfl hx,a4w (show w6.ownsRow (j.heap.size+1) 61 5 vn s'.2.length (a0B s'.2)from AH) (by omega)⟩,Ax.out⟩)
 ·have tn:((p.length:Int) !=(fs.length:Int))=true:=by simp;omega
  have S:Hid (RP=(6,[])):=Y H;clear Y U;go_enter func21,ntmps21;go_wp2_with (first|(go_at_call 43;refine HC.out.mono ?_;rintro e1 t ⟨rfl,E⟩;have u:Hid (B__ w t):=E;clear E)|(go_at_call 44;refine(Af.out _).mono ?_;rintro e2 w2 ⟨rfl,F,o⟩;have y:Hid (B__ t w2):=F;have M:Hid (a0A w2 t.heap.size C A):=o;clear F o)|(go_at_call 45;refine(b3q t.heap.size B (C.length+1) C A p _ M.out HB.out hB Ac.out).mono ?_;rintro e3 j ⟨⟨AI,rfl,L⟩,G⟩;obtain⟨an,gn,cn,rfl,r⟩:=b5M L;have z:Hid (B__ w2 j):=G;have Ae:Hid (a0u j an gn 0 p):=r;clear G r L));go_ret2;rw[S.out];have s1:=u.out.size;have s2:=y.out.size;exact⟨⟨_,rfl,fun _=>rfl,E_ ..⟩,(u.out.trans (y.out.mono s1)).trans (z.out.mono (by omega))⟩
theorem b0J(s:ByteArray)(fs:List Int)(d:Option Addr)(e of a:Nat)(w:World)(g:s.size≤maxLen)(f:a0u w d e of fs)(b:fs.length≤9223372036854775807)(c:a3I fs):Calls prog 21 #[.string s,.slice d fs.length a] w (a3w w (a1L s.data.toList fs)):=by
 by_cases h:(a0s s.data.toList).1=0
 ·exact c2K s fs d e of a w g f b c h
 ·exact c0Z s fs d e of a w g f b c h
end Go.Proofs.YtdgmoiflahoihaaGreatDoor
