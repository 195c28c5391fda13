import Derived.RowKit
import Derived.Test.YtdgmoiflahoihabGreatDoorVPw

namespace Go.Proofs.YtdgmoiflahoihabGreatDoor
open Go.RowKit
set_option linter.unusedSimpArgs false
set_option linter.unusedVariables false
theorem tx_of_list {S : ByteArray} {l : List UInt8} (h : S.data.toList = l) : S = ⟨l.toArray⟩ := by
 subst h
 simp
def txt (l : List UInt8) : ByteArray := ⟨l.toArray⟩
theorem txt_append (a b : List UInt8) : txt a ++ txt b = txt (a ++ b) := by
 refine (tx_of_list (l := a ++ b) ?_)
 rw [ByteArray.data_append, Array.toList_append]
 rfl
theorem txt_size (l : List UInt8) : (txt l).size = l.length := rfl
end Go.Proofs.YtdgmoiflahoihabGreatDoor
namespace Go.Proofs.YtdgmoiflahoihabGreatDoor
set_option linter.unusedSimpArgs false
set_option linter.unusedVariables false
def decB (n : Nat) : List UInt8 := if h : n < 10 then [UInt8.ofNat (48 + n)] else decB (n / 10) ++ [UInt8.ofNat (48 + n % 10)]
decreasing_by omega
theorem decB_small {n : Nat} (h : n < 10) : decB n = [UInt8.ofNat (48 + n)] := by rw [decB, dif_pos h]
def intB (x : Int) : List UInt8 := if x < 0 then 45 :: decB x.natAbs else decB x.natAbs
def worthB (v : Vl) : List UInt8 := if v.fault ≠ 0 then 33 :: intB v.fault else intB v.num
structure Ln where
 place : Int
 val : Vl
def lineB (l : Ln) : List UInt8 := intB l.place ++ 58 :: worthB l.val
def isDig (c : UInt8) : Bool := decide (48 ≤ c) && decide (c ≤ 57)
theorem decB_len : ∀ (k n : Nat), n < 10 ^ (k + 1) → (decB n).length ≤ k + 1
 | 0, n, h => by rw [decB_small (by simpa using h)]; simp
 | k + 1, n, h => by
  by_cases hs : n < 10
  ·rw [decB_small hs]; simp
  ·rw [decB, dif_neg hs]
   have := decB_len k (n / 10) (by rw [Nat.pow_succ] at h; omega)
   simp
   omega
structure Sc where
 rest : List UInt8
 bad : Bool
def Sc.sees (x : Sc) (lo hi : UInt8) : Bool := match x.rest with | [] => false | c :: _ => decide (lo ≤ c) && decide (c ≤ hi)
def Sc.take (x : Sc) (lo hi : UInt8) : Nat × Sc := match x.rest with | [] => (0, ⟨[], true⟩) | c :: r => if decide (lo ≤ c) && decide (c ≤ hi) then (c.toNat - lo.toNat, ⟨r, x.bad⟩) else (0, ⟨c :: r, true⟩)
def bdMinF (B : Nat) : List UInt8 → Nat → Nat × List UInt8 × Bool
 | [], v => (v, [], false)
 | c :: r, v => if isDig c then (if B < 10 * v + (c.toNat - 48) then (0, r, true) else bdMinF B r (10 * v + (c.toNat - 48))) else (v, c :: r, false)
def Sc.minus (x : Sc) (B : Nat) : Nat × Sc :=
 let p := x.take 49 57
 let q := bdMinF B p.2.rest (p.1 + 1)
 (q.1, ⟨q.2.1, p.2.bad || q.2.2⟩)
def Sc.number (x : Sc) (B : Nat) : Nat × Sc := if x.sees 48 48 then (0, (x.take 48 48).2) else x.minus B
theorem intB_nat (n : Nat) : intB (n : Int) = decB n := by
 unfold intB
 rw [if_neg (by omega)]
 rfl
end Go.Proofs.YtdgmoiflahoihabGreatDoor
