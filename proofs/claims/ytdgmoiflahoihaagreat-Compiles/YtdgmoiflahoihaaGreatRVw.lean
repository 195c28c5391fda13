import Derived.Test.YtdgmoiflahoihaaGreatRExw

namespace Go.Proofs.YtdgmoiflahoihaaGreat
open Go.RowKit
set_option linter.unusedSimpArgs false
set_option linter.unusedVariables false
structure Vl where
 num : Int
 fault : Int
def fits (x : Int) : Bool := decide (-9223372036854775808 ≤ x) && decide (x ≤ 9223372036854775807)
theorem fits_iff (x : Int) : fits x = true ↔ -9223372036854775808 ≤ x ∧ x ≤ 9223372036854775807 := by simp [fits]
theorem fits_not (x : Int) : fits x = false ↔ ¬ (-9223372036854775808 ≤ x ∧ x ≤ 9223372036854775807) := by
 rw [← fits_iff]; simp
def vlOf (x : Int) : Vl := if fits x then ⟨x, 0⟩ else ⟨0, 1⟩
theorem vlOf_fits {x : Int} (h : -9223372036854775808 ≤ x ∧ x ≤ 9223372036854775807) : vlOf x = ⟨x, 0⟩ := by
 unfold vlOf; rw [if_pos ((fits_iff x).mpr h)]
structure VlOk (v : Vl) : Prop where
 num : -9223372036854775808 ≤ v.num ∧ v.num ≤ 9223372036854775807
 fault : 0 ≤ v.fault ∧ v.fault ≤ 2
 none : v.fault ≠ 0 → v.num = 0
theorem vlOf_ok (x : Int) : VlOk (vlOf x) := by
 unfold vlOf
 split
 ·rename_i h
  exact ⟨(fits_iff x).mp h, by simp, by simp⟩
 ·exact ⟨by simp, by simp, by simp⟩
def divV (a b : Int) : Vl := if b = 0 then ⟨0, 2⟩ else vlOf (a.tdiv b)
def remV (a b : Int) : Vl := if b = 0 then ⟨0, 2⟩ else ⟨a.tmod b, 0⟩
def numsV (op a b : Int) : Vl :=
 if op = 4 then vlOf (a + b) else if op = 5 then vlOf (a - b) else if op = 6 then vlOf (a * b)
 else if op = 7 then divV a b else if op = 8 then remV a b
 else if op = 9 then ⟨if a < b then 1 else 0, 0⟩ else if op = 10 then ⟨if a = b then 1 else 0, 0⟩ else ⟨0, 0⟩
def opV (op : Int) (x y : Vl) : Vl := if x.fault ≠ 0 then x else if y.fault ≠ 0 then y else numsV op x.num y.num
def negV (x : Vl) : Vl := if x.fault ≠ 0 then x else vlOf (0 - x.num)
theorem negV_op (x : Vl) : negV x = opV 5 ⟨0, 0⟩ x := by
 unfold negV opV numsV
 simp
theorem tmod_in {a b : Int} (ha : -9223372036854775808 ≤ a ∧ a ≤ 9223372036854775807) (hb : b ≠ 0) : -9223372036854775808 ≤ a.tmod b ∧ a.tmod b ≤ 9223372036854775807 := by
 rcases Int.le_total 0 a with h | h
 ·have h1 := Int.tmod_nonneg b h
  have h2 : a.tmod b ≤ a := by
   have := Int.natAbs_tmod a b
   have h3 : a.natAbs % b.natAbs ≤ a.natAbs := Nat.mod_le _ _
   omega
  omega
 ·have h1 : a.tmod b ≤ 0 := by
   have := Int.tmod_nonneg b (a := -a) (by omega)
   rw [Int.neg_tmod] at this
   omega
  have h2 : a ≤ a.tmod b := by
   have := Int.natAbs_tmod a b
   have h3 : a.natAbs % b.natAbs ≤ a.natAbs := Nat.mod_le _ _
   omega
  omega
theorem divV_ok (a b : Int) : VlOk (divV a b) := by
 unfold divV
 split
 ·exact ⟨by simp, by simp, by simp⟩
 ·exact vlOf_ok _
theorem remV_ok {a : Int} (b : Int) (ha : -9223372036854775808 ≤ a ∧ a ≤ 9223372036854775807) : VlOk (remV a b) := by
 unfold remV
 split
 ·exact ⟨by simp, by simp, by simp⟩
 ·rename_i h
  exact ⟨tmod_in ha h, by simp, by simp⟩
theorem numsV_ok (op : Int) {a : Int} (b : Int) (ha : -9223372036854775808 ≤ a ∧ a ≤ 9223372036854775807) : VlOk (numsV op a b) := by
 unfold numsV
 split
 ·exact vlOf_ok _
 split
 ·exact vlOf_ok _
 split
 ·exact vlOf_ok _
 split
 ·exact divV_ok a b
 split
 ·exact remV_ok b ha
 split
 ·split <;> exact ⟨by simp, by simp, by simp⟩
 split
 ·split <;> exact ⟨by simp, by simp, by simp⟩
 ·exact ⟨by simp, by simp, by simp⟩
theorem opV_ok (op : Int) {x y : Vl} (hx : VlOk x) (hy : VlOk y) : VlOk (opV op x y) := by
 unfold opV
 split
 ·exact hx
 split
 ·exact hy
 ·exact numsV_ok op _ hx.num
theorem negV_ok {x : Vl} (hx : VlOk x) : VlOk (negV x) := by
 unfold negV
 split
 ·exact hx
 ·exact vlOf_ok _
def opC (c : UInt8) (x y : Vl) : Vl :=
 if x.fault ≠ 0 then x else if y.fault ≠ 0 then y
 else if c == 43 then vlOf (x.num + y.num) else if c == 45 then vlOf (x.num - y.num) else if c == 42 then vlOf (x.num * y.num)
 else if c == 60 then ⟨if x.num < y.num then 1 else 0, 0⟩ else if c == 61 then ⟨if x.num = y.num then 1 else 0, 0⟩
 else if c == 47 then divV x.num y.num else remV x.num y.num
end Go.Proofs.YtdgmoiflahoihaaGreat
namespace Go.Proofs.YtdgmoiflahoihaaGreat
open Go.RowKit
set_option linter.unusedSimpArgs false
set_option linter.unusedVariables false
abbrev vlV (v : Vl) : Value := .agg #[.int .i64 v.num, .int .i64 v.fault]
def GivesV (f : Nat) (args : Array Value) (v : Vl) : Prop := ∀ w, Calls Tryz.prog f args w fun e w' => e = .returned (vlV v) ∧ Below w.heap.size w w'
end Go.Proofs.YtdgmoiflahoihaaGreat
namespace Go.Proofs.YtdgmoiflahoihaaGreat
open Go.RowKit
set_option linter.unusedSimpArgs false
set_option linter.unusedVariables false
theorem wrap_in (n : Int) (h : -9223372036854775808 ≤ n ∧ n ≤ 9223372036854775807) : wrap64 n = n := by unfold wrap64; omega
end Go.Proofs.YtdgmoiflahoihaaGreat
