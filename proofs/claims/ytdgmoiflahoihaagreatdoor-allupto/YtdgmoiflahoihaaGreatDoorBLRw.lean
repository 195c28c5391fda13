import Derived.Test.YtdgmoiflahoihaaGreatDoorBLIw
import Derived.Test.YtdgmoiflahoihaaGreatDoorBDNw
import Derived.Test.YtdgmoiflahoihaaGreatDoorRARw

set_option linter.unusedSimpArgs false
set_option linter.unusedVariables false
set_option maxRecDepth 100000
set_option maxHeartbeats 8000000
namespace Go.Proofs.YtdgmoiflahoihaaGreatDoor
open Go.Proofs.Tryz
open Go.RowKit
theorem c10(a b:Int)(w:World):Calls prog 22 #[i_ a,i_ b] w fun e w'=>e= .returned (.bool (bits .or .i64 a b==b))∧w'=w:=by
 go_enter func22,ntmps22;go_wp2_with fail;go_ret;exact⟨rfl,rfl⟩
theorem c4x(M:List UInt8)(x:Nt):txt M++txt (a0T (x.place:Int))++⟨#[58]⟩++txt (a0J x.val)++⟨#[10]⟩=txt (M++a2Q x):=by
 rw[a2x];have a:txt (M++a0T (x.place:Int))++⟨#[58]⟩=txt (M++a0T (x.place:Int)++ [58]):=a2x _ [58];rw[a,a2x];have b:txt (M++a0T (x.place:Int)++ [58]++a0J x.val)++⟨#[10]⟩=txt (M++a0T (x.place:Int)++ [58]++a0J x.val++ [10]):=a2x _ [10];rw[b];unfold a2Q a2K;simp
theorem b86(s:ByteArray)(vf:Value)(r:Int)(w:World)(R:Int×List Nt)(H:Calls prog 21 #[.string s,vf] w (a3w w R))(Z:R.2.length≤5000)(P:∀x∈R.2,a8h x):
  Calls prog 8 #[.string s,vf,i_ r] w (a8N w (a39 r R)):=by
 obtain⟨X,N⟩:=R;simp only at Z P;have y:Hid (Calls prog 21 #[.string s,vf] w (a3w w (X,N))):=H;have B:Hid (∀x∈N,a8h x):=P;clear H P;by_cases h0:X=0
 ·subst h0;by_cases hr:r<0∨15<r
  ·have Y:a39 r (0,N)=(9,[]):=by unfold a39;rw[f_ (by simp),n_ hr]
   rw[Y];clear B;by_cases F:r<0
   ·have t1:decide (r<0)=true:=b_a F;go_enter func8,ntmps8;go_wp2_with (first|(go_at_call 21;refine y.out.mono ?_;rintro e z ⟨⟨va,rfl,u,o⟩,j⟩;have m:Hid (B__ w z):=j;clear j u o));go_ret2;exact⟨rfl,m.out⟩
   ·have t1:decide (r<0)=false:=b_u F;have t2:decide ((15:Int)<r)=true:=by rw[Y_];omega
    go_enter func8,ntmps8;go_wp2_with (first|(go_at_call 21;refine y.out.mono ?_;rintro e z ⟨⟨va,rfl,u,o⟩,j⟩;have m:Hid (B__ w z):=j;clear j u o));go_ret2;exact⟨rfl,m.out⟩
  ·have Y:a39 r (0,N)=(0,a3l r N):=by unfold a39;rw[f_ (by simp),f_ hr]
   rw[Y];have t1:decide (r<0)=false:=by rw[N_];omega
   have t2:decide ((15:Int)<r)=false:=by rw[N_];omega
   have HR:Hid (([]:List UInt8)++a3l r (N.drop 0)=a3l r N):=rfl;generalize Ag:a3l r N=V at HR⊢;clear Ag;go_enter func8,ntmps8;go_wp2_with (first|(go_at_call 21;refine y.out.mono ?_;rintro e z ⟨⟨va,rfl,u,o⟩,j⟩;obtain⟨aa,E,ca,rfl,Ab⟩:=a4P o;have I:Hid (a1H z aa E N):=Ab;have m:Hid (B__ w z):=j;clear j u o Ab));go_loopw [10,11] (fun v x p=>∃(k:Nat) (M:List UInt8),v= .string (txt M)∧x=i_ k∧k≤N.length∧M.length≤50*k∧Hid (B__ z p)∧Hid (M++a3l r (N.drop k)=V)) (fun _ x _=>N.length-(intOf x).toNat);case atStart=>exact⟨0,[],rfl,rfl,a_j _,a_ _,g_ _ _,HR⟩
   case round=>
    obtain⟨k,M,rfl,rfl,hk,hM,D,HF⟩:=hrel;by_cases O:k<N.length
    ·have tk:decide ((k:Int)<(N.length:Int))=true:=by rw[Y_];omega
     have U:Hid (∀p,B__ z p→aa=some (a__ E 0)∧E<p.heap.size∧p.cell? (a__ E (k*5))=some (i_ N[k].kind)∧p.cell? (a__ E (k*5+1))=some (i_ N[k].place)∧p.cell? (a__ E (k*5+2))=some (i_ N[k].label)∧p.cell? (a__ E (k*5+3))=some (i_ N[k].val.num)∧p.cell? (a__ E (k*5+4))=some (i_ N[k].val.fault)):=fun p h=>I.out.below h k O
     obtain⟨ea,hg,c0,c1,c2,c3,c4⟩:=U.out wr D.out;have l:=B.out N[k] (P_ O);have C:=HF.out;rw[b3f r N k O]at C;subst ea;generalize N[k]=x at*;have T:Hid (∀w,Calls prog 22 #[i_ (x.label:Int),i_ r] w fun e p=>e= .returned (.bool (bits .or .i64 (x.label:Int) r==r))∧p=w):=fun w=>c10 _ _ w
     have An:=l.place;have Ai:=l.val.fault;have Ae:Hid (∀w,Calls prog 23 #[i_ (x.place:Int)] w fun e p=>e= .returned (.string (txt (a0T (x.place:Int))))∧B__ w p):=fun w=>a8E _ (by omega) w
     have Af:Hid (∀w,Calls prog 24 #[.agg #[i_ x.val.num,i_ x.val.fault]] w fun e p=>e= .returned (.string (txt (a0J x.val)))∧B__ w p):=fun w=>b1O x.val ⟨l.val.num,by omega⟩ w
     have Ad:Hid (txt M++txt (a0T (x.place:Int))++⟨#[58]⟩++txt (a0J x.val)++⟨#[10]⟩=txt (M++a2Q x)):=c4x M x;have Aj:(txt (a0T (x.place:Int))).size≤20:=a6g (x.place:Int) (by omega);have Ak:(txt (a0J x.val)).size≤21:=a9b l.val;have Al:(txt M).size≤250000:=by show M.length≤_;omega
     have Am:=b5K l;clear HF B I l;unfold a84 at C;cases Aa:(x.kind==0)
     ·rw[Aa]at C;have t:Hid (M++a3l r (N.drop (k+1))=V):=by show _=_;simpa using C
      clear C;go_wp2_with fail;refine⟨⟨k+1,M,rfl,by go_num,by omega,by omega,D,t⟩,?_⟩;simp[intOf];omega
     ·rw[Aa,a_J]at C;generalize (bits .or .i64 (x.label:Int) r==r)=G at*;cases G
      ·have t:Hid (M++a3l r (N.drop (k+1))=V):=by show _=_;simpa using C
       clear C;go_wp2_with (first|(go_at_call 22;refine(T.out _).mono ?_;rintro e w2 ⟨rfl,S⟩;subst S));refine⟨⟨k+1,M,rfl,by go_num,by omega,by omega,D,t⟩,?_⟩;simp[intOf];omega
      ·have t:Hid ((M++a2Q x)++a3l r (N.drop (k+1))=V):=by show _=_;rw[←C];simp
       clear C;generalize txt (a0T (x.place:Int))=N1 at*;generalize txt (a0J x.val)=N2 at*;go_upto_region 11 with(first|(go_at_call 22;refine(T.out _).mono ?_;rintro e w2 ⟨rfl,S⟩;subst S));generalize Ah:txt M=TM at*;go_region_with (first|(go_at_call 23;refine(Ae.out _).mono ?_;rintro e w3 ⟨rfl,J⟩;have A:Hid (B__ z w3):=(by first|exact D.out.trans (J.mono D.out.size)|exact D.out.drew.trans (J.mono D.out.size));obtain⟨_,_,_,_,_,e3,e4⟩:=U.out w3 A.out;clear J)|(go_at_call 24;refine(Af.out _).mono ?_;rintro e w4 ⟨rfl,L⟩;have Ac:Hid (B__ z w4):=(by first|exact A.out.trans (L.mono A.out.size)|exact A.out.drew.trans (L.mono A.out.size));clear L));all_goals go_wp2_with fail
       all_goals (refine⟨⟨k+1,M++a2Q x,by rw[Ad.out],by go_num,by omega,by rw[x_];omega,Ac,t⟩,?_⟩;simp[intOf];omega)
    ·have tk:decide ((k:Int)<(N.length:Int))=false:=by rw[N_];omega
     have t:Hid (M=V):=by
      have:=HF.out;rw[C_ (by omega)]at this;show _=_;simpa[a3l]using this
     clear HF B I;go_wp2_with fail;go_ret2;refine⟨?_,m.out.trans (D.out.mono m.out.size)⟩;rw[←t.out];rfl
 ·have Y:a39 r (X,N)=(X,[]):=by unfold a39;rw[n_ (by simpa using h0)]
  rw[Y];have t0:(X !=0)=true:=by simpa using h0
  clear B;go_enter func8,ntmps8;go_wp2_with (first|(go_at_call 21;refine y.out.mono ?_;rintro e z ⟨⟨va,rfl,u,o⟩,j⟩;have m:Hid (B__ w z):=j;clear j u o));go_ret2;exact⟨rfl,m.out⟩
theorem c0d(s:ByteArray)(fs:List Int)(y:Option Addr)(B of j:Nat)(r:Int)(w:World)(R:s.size≤maxLen)(O:a0u w y B of fs)(P:8*(fs.length+2)≤281474976710656)(p:a3I fs)(S:a2c w):
  Calls prog 3 #[.string s,.slice y fs.length j,i_ r] w fun e w'=>e= .returned T__∧B__ w w':=by
 have L:Hid (a0u w y B of fs):=O;have Z:Hid (a2c w):=S;have o:=b0Q s.data.toList fs p;have t:=c4U s.data.toList fs p;have X:Hid (∀g z (w:World),a0u w (some (a__ g 0)) g 0 fs→a2c w→Calls prog 7 #[.string s,.slice (some (a__ g 0)) fs.length z,i_ r] w (a8N w (a39 r (a1L s.data.toList fs)))):=fun g z w h h2=>b6L s _ r w _ (fun w' e=>by subst e;exact b7W s fs g z _ R h (by unfold maxLen;omega) p) o t h2
 have Y:Hid (∀(w:World),a0u w y B of fs→Calls prog 8 #[.string s,.slice y fs.length j,i_ r] w (a8N w (a39 r (a1L s.data.toList fs)))):=fun w h=>b86 s _ r w _ (b0J s fs y B of j w R h (by omega) p) o t
 clear o t;generalize a39 r (a1L s.data.toList fs)=V at*;obtain⟨N,M⟩:=V;have t1:(N==N)=true:=by simp
 have t2:((txt M).toList==(txt M).toList)=true:=by simp
 clear O p S;go_enter func3,ntmps3;go_wp2_with (first|(go_at_call 6;refine(a5U fs y B of j _ L.out P).mono ?_;rintro e I ⟨rfl,A,D⟩;have C:Hid (I.heap[w.heap.size]? =some (.cells (a2k fs++a7X).toArray 3 (0,0))):=A;have m:Hid (B__ w I):=D;have H:w.heap.size<I.heap.size:=(z_.mp A).1;clear A D)|(go_at_call 7;refine(X.out w.heap.size _ _ (a6h C.out) (Z.out.below m.out)).mono ?_;rintro e T ⟨rfl,E⟩;have l:Hid (B__ I T):=E;clear E)|(go_at_call 8;refine(Y.out _ ((L.out.below m.out).below l.out)).mono ?_;rintro e U ⟨rfl,F⟩;have u:Hid (B__ T U):=F;clear F)|(go_at_call 9;refine(a5A fs w.heap.size y B of j _ (by rw[u.out.block _ (by have:=l.out.size;omega),l.out.block _ H];exact C.out) (((L.out.below m.out).below l.out).below u.out) P).mono ?_;rintro e w4 ⟨rfl,G⟩;have J:Hid (B__ U w4):=G;clear G));go_ret;have s1:=m.out.size;have s2:=l.out.size;have s3:=u.out.size;exact⟨rfl,((m.out.trans (l.out.mono (by omega))).trans (u.out.mono (by omega))).trans (J.out.mono (by omega))⟩
end Go.Proofs.YtdgmoiflahoihaaGreatDoor
