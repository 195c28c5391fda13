import Derived.Test.YtdgmoiflahoihaaGreatDoorBDPw
import Derived.Test.YtdgmoiflahoihaaGreatDoorLRPw
import Derived.Lib.ItoaNum

set_option linter.unusedSimpArgs false
set_option linter.unusedVariables false
set_option maxRecDepth 100000
set_option maxHeartbeats 8000000
namespace Go.Proofs.YtdgmoiflahoihaaGreatDoor
open Go.RowKit
theorem b6U(n:Nat):Lib.decDigits n=a1i n:=by
 induction n using Nat.strongRecOn with
 |_ n ih=>
  rw[Lib.decDigits,a1i];by_cases h:n<10
  ·rw[dif_pos h,dif_pos h]
  ·rw[dif_neg h,dif_neg h,ih (n/10) (by omega)]
theorem c4o(n:Int):Lib.itoa n=a0T n:=by
 unfold Lib.itoa a0T;by_cases h:n<0
 ·rw[n_ h,n_ h,b6U]
 ·rw[f_ h,f_ h,b6U,show n.toNat=n.natAbs by omega]
structure a8h(x:Nt):Prop where
 place:x.place≤400
 val:a0S x.val
 label:x.label<16
structure a64(s:SR):Prop where
 st:a1h s
 nts:∀x∈s.2,a8h x
theorem b7B{l:List Nt}{x:Nt}(h:∀y∈l,a8h y)(b:a8h x):∀y∈l++ [x],a8h y:=by
 intro y a;rcases G_.mp a with a|a
 ·exact h y a
 ·rw[a_A.mp a];exact b
theorem b9P{f:SR→SR}(a:∀s,a64 s→a64 (f s)):∀(n:Nat) (s:SR),a64 s→a64 (a7L f n s)
 |0,s,h=>h
 |n+1,s,h=>b9P a n (f s) (a s h)
theorem c6J{α:Type}{nums:List α→Prop}{b:SR→List α→SR}(d:∀s l,nums l→a64 s→a64 (b s l))(s:SR)(q:a0C×List α×List α)(i:∀p∈q.1.parts,a2q p)(e:nums q.2.1)(g:nums q.2.2)(a:q.1.place≤400∧q.1.label<16)(h:a64 s):a64 (doT b s q):=by
 have c:=a56 h.st.ok i;unfold doT
 split
 ·exact⟨h.st.set c _ _,h.nts⟩
 split
 ·exact⟨h.st.set c _ _,b7B h.nts ⟨a.1,c,a.2⟩⟩
 split
 ·exact⟨⟨h.st.len,h.st.ok⟩,b7B h.nts ⟨a.1,c,a.2⟩⟩
 split
 ·split
  ·exact h
  split
  ·exact d s _ e h
  ·exact d s _ g h
 ·exact b9P (f:=fun s=>b s q.2.1) (fun s j=>d s _ e j) _ s h
theorem c1H{α:Type}{nums:List α→Prop}{a:SR→List α→SR}(b:∀s l,nums l→a64 s→a64 (a s l)):∀(l:List (a0C×List α×List α)) (s:SR),(∀q∈l,(∀p∈q.1.parts,a2q p)∧nums q.2.1∧nums q.2.2∧q.1.place≤400∧q.1.label<16)→a64 s→a64 (doL a s l)
 | [],s,_,h=>h
 |q::r,s,hl,h=>by
  obtain⟨c,d,e,f⟩:=hl q (by simp);exact c1H b r (doT a s q) (fun x g=>hl x (by simp[g])) (c6J b s q c d e f h)
theorem c1F:∀(n:Nat) (l:List (RT n)) (s:SR),a05 n l→a0v n l→a64 s→a64 (doF n s l)
 |0,l,s,_,_,h=>h
 |n+1,l,s,hn,ht,h=>
  c1H (nums:=fun l=>a05 n l∧a0v n l) (fun s l b c=>c1F n l s b.1 b.2 c) l s (fun q a=>⟨(hn q a).1,⟨(hn q a).2.1,(ht.2 q a).2.1⟩,⟨(hn q a).2.2,(ht.2 q a).2.2⟩,(ht.2 q a).1.place,(ht.2 q a).1.label⟩) h
theorem c4U(t:List UInt8)(fs:List Int)(f:a3I fs):∀x∈(a1L t fs).2,a8h x:=by
 unfold a1L
 split
 ·simp
 rename_i c
 split
 ·simp
 have b:(a0s t).1=0:=by simpa using c
 obtain⟨d,e,i,j,k⟩:=a5P b;have g:=a24 d e;have a:=a7y (a0t t).2 fs a1x f rfl (fun v h=>by have:=a_G h;rw[this];exact a99);exact(c1F 9 (a0n t).2 (a2d (a0t t).2 fs a1x,[]) (a7h t) g.tree ⟨⟨a.1,a.2⟩,by simp⟩).nts
def a84(r:Int)(x:Nt):Bool:=(x.kind==0)&&(bits .or .i64 (x.label:Int) r==r)
def a2Q(x:Nt):List UInt8:=a2K ⟨x.place,x.val⟩++ [10]
def a3l(r:Int):List Nt→List UInt8
 | []=> []
 |x::l=>(if a84 r x then a2Q x else [])++a3l r l
def a39(r:Int)(e:Int×List Nt):Int×List UInt8:=if e.1≠0 then(e.1,[])else if r<0∨15<r then(9,[])else(0,a3l r e.2)
theorem a6g(x:Int)(h: -9223372036854775808≤x∧x≤9223372036854775807):(a0T x).length≤20:=by
 have a:=a8S 18 x.natAbs (b_w (show x.natAbs≤9223372036854775808 by omega) (by decide));unfold a0T
 split
 ·simp only[B_];omega
 ·omega
theorem a9b{v:Vl}(h:a0S v):(a0J v).length≤21:=by
 have a:=a6g v.num h.num;have b:=a6g v.fault (by have:=h.fault;omega);unfold a0J
 split
 ·simp only[B_];omega
 ·omega
theorem b5K{x:Nt}(h:a8h x):(a2Q x).length≤50:=by
 have a:=a6g (x.place:Int) (by have:=h.place;omega);have b:=a9b h.val;unfold a2Q a2K;simp only[x_,B_,a_r];omega
end Go.Proofs.YtdgmoiflahoihaaGreatDoor
