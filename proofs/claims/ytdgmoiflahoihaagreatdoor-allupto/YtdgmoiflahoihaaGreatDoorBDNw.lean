import Derived.Test.YtdgmoiflahoihaaGreatDoorBDPw
import Derived.Test.YtdgmoiflahoihaaGreatDoorROpw
import Derived.Laws.Strings
import Derived.Deep.Upon

set_option linter.unusedSimpArgs false
set_option linter.unusedVariables false
set_option maxRecDepth 100000
set_option maxHeartbeats 8000000
namespace Go.Proofs.YtdgmoiflahoihaaGreatDoor
open Go.Proofs.Tryz
open Go.RowKit
theorem b4Z(W:World)(n:Nat)(h:n<256):(convert 107 9 (.slice (some (a__ W.heap.size 0)) 1 1)).run prog (W.alloc (.cells #[.int .u8 (n:Int)] 5))= .ok (.string ⟨#[UInt8.ofNat n]⟩) (W.alloc (.cells #[.int .u8 (n:Int)] 5)):=by
 refine run_convert_bytes_back (P:=prog) _ 107 9 5 (a__ W.heap.size 0) 1 [UInt8.ofNat n] underlying107 underlying5 underlying9 ?_;intro j a
 match j,a with
 |0,_=>
  have e:n%256=n:=Nat.mod_eq_of_lt h;simp[go_sem,Addr.add,e]
theorem c1A{p:Nat}(h:9<p):a1i p=a1i (p/10)++ [UInt8.ofNat (48+p%10)]:=by rw[a1i,dif_neg (by omega)]
theorem b0x(x:Int)(h: -9223372036854775808≤x∧x≤9223372036854775807):(a0T x).length≤20:=by
 have a:=a8S 18 x.natAbs (b_w (show x.natAbs≤9223372036854775808 by omega) (by decide));unfold a0T
 split
 ·simp only[B_];omega
 ·omega
theorem a8E(n:Int)(L: -9223372036854775808≤n∧n≤9223372036854775807)(w:World):
  Calls prog 23 #[i_ n] w fun e w'=>e= .returned (.string (txt (a0T n)))∧B__ w w':=by
 have H:Hid (∀w,Calls prog 48 #[i_ n] w fun e w'=>e= .returned (.int .u64 (n.natAbs:Nat))∧w'=w):=fun w=>b50 n L w
 have F:n.natAbs≤9223372036854775808:=by omega
 have r:=a8S 18 n.natAbs (b_w F (by decide));have C:Hid (a0T n=if n<0 then 45::a1i n.natAbs else a1i n.natAbs):=rfl;have u:Hid (a1i n.natAbs++ []=a1i n.natAbs):=a_i _;generalize a0T n=R at*;generalize E:a1i n.natAbs=D at*;rw[show Hid (D++ []=D)=Hid (a1i n.natAbs++ []=D)by rw[E]]at u;generalize n.natAbs=N at*;clear E;go_enter func23,ntmps23;go_wp2_with (go_at_call 48;refine(H.out _).mono ?_;rintro e O ⟨rfl,B⟩;subst B);go_loopw [3,4] (fun x y w'=>∃(p:Nat) (S:List UInt8),x= .int .u64 p∧y= .string (txt S)∧p≤9223372036854775808∧Hid (a1i p++S=D)∧Hid (B__ O w')) (fun x _ _=>(intOf x).toNat);case atStart=>exact⟨N,[],rfl,rfl,F,u,g_ _ _⟩
 case round=>
  obtain⟨p,S,rfl,rfl,T,t,o⟩:=hrel;have A:S.length≤19:=by have:=a_w List.length t.out;rw[x_]at this;omega
  have P:(txt S).size≤19:=A;by_cases I:9<p
  ·have m:=t.out;rw[c1A I]at m;have l:=b4Z wr (48+p%10) (by omega);rw[show((48+p%10:Nat):Int)=48+(p:Int)%10 by omega]at l;generalize UInt8.ofNat (48+p%10)=c at l m;have s:Hid ((⟨#[c]⟩:ByteArray)++txt S=txt (c::S)):=a2x [c] S;have G:Hid (a1i (p/10)++(c::S)=D):=by show _=_;rw[←m];simp
   clear m;go_wp2_with fail;refine⟨⟨p/10,c::S,by simp,by rw[s.out],by omega,G,o.out.alloc o.out.size _⟩,?_⟩;simp[intOf];omega
  ·have m:=t.out;rw[a2s (by omega)]at m;have l:=b4Z wr (48+p) (by omega);rw[show((48+p:Nat):Int)=48+(p:Int)by omega]at l;generalize UInt8.ofNat (48+p)=c at l m;have s:Hid ((⟨#[c]⟩:ByteArray)++txt S=txt D):=by show _=_;rw[←m];exact a2x [c] S
   have J:(txt D).size≤19:=r;have U:decide (9<(p:Int))=false:=by rw[N_];omega
   clear m t u;by_cases j:n<0
   ·have M:decide (n<0)=true:=b_a j;have z:Hid ((⟨#[45]⟩:ByteArray)++txt D=txt R):=by show _=_;rw[C.out,n_ j];exact a2x [45] D
    go_wp2_with fail;go_ret;refine⟨?_,o.out.alloc o.out.size _⟩;rw[←z.out,←s.out];rfl
   ·have M:decide (n<0)=false:=b_u j;have z:Hid (R=D):=by show _=_;rw[C.out,f_ j]
    go_wp2_with fail;go_ret;refine⟨?_,o.out.alloc o.out.size _⟩;rw[z.out,←s.out];rfl
theorem b1O(v:Vl)(n:(-9223372036854775808≤v.num∧v.num≤9223372036854775807)∧(-9223372036854775808≤v.fault∧v.fault≤9223372036854775807))(w:World):
  Calls prog 24 #[vlV v] w fun e w'=>e= .returned (.string (txt (a0J v)))∧B__ w w':=by
 obtain⟨b,a⟩:=v;obtain⟨l,i⟩:=n;simp only at l i;have m:Hid (∀w,Calls prog 23 #[i_ b] w fun e w'=>e= .returned (.string (txt (a0T b)))∧B__ w w'):=fun w=>a8E b l w
 have k:Hid (∀w,Calls prog 23 #[i_ a] w fun e w'=>e= .returned (.string (txt (a0T a)))∧B__ w w'):=fun w=>a8E a i w
 have d:=b0x a i;have g:B__ w (w.alloc (.cells #[i_ b,i_ a] 59)):=(g_ _ _).alloc (a_ _) _;by_cases f:a=0
 ·have h:a0J ⟨b,a⟩=a0T b:=by unfold a0J;rw[f_ (by simpa using f)]
  rw[h];clear h k d i;subst f;go_enter func24,ntmps24;go_wp2_with (go_at_call 23;refine(m.out _).mono ?_;rintro e o ⟨rfl,c⟩;have j:Hid _:=g.trans (c.mono (by simp));clear c);go_ret;exact⟨rfl,j.out⟩
 ·have h:txt (a0J ⟨b,a⟩)=⟨#[33]⟩++txt (a0T a):=by
   unfold a0J;rw[n_ f];exact(a2x [33] (a0T a)).symm
  rw[h];have q:(a !=0)=true:=by simp[f]
  have p:(txt (a0T a)).size≤20:=d;generalize txt (a0T a)=T at*;clear h f d;go_enter func24,ntmps24;go_wp2_with (go_at_call 23;refine(k.out _).mono ?_;rintro e o ⟨rfl,c⟩;have j:Hid _:=g.trans (c.mono (by simp));clear c);go_ret;exact⟨rfl,j.out⟩
end Go.Proofs.YtdgmoiflahoihaaGreatDoor
