import Derived.RowKit

namespace Go.Proofs.Ytdgmoiflahoihaa
open Go.RowKit
set_option linter.unusedSimpArgs false
set_option linter.unusedVariables false
structure Vl where
 num : Int
 fault : Int
def fits (x : Int) : Bool := decide (-9223372036854775808 ≤ x) && decide (x ≤ 9223372036854775807)
theorem fits_iff (x : Int) : fits x = true ↔ -9223372036854775808 ≤ x ∧ x ≤ 9223372036854775807 := by simp [fits]
theorem fits_not (x : Int) : fits x = false ↔ ¬ (-9223372036854775808 ≤ x ∧ x ≤ 9223372036854775807) := by
 rw [← fits_iff]; simp
def vlOf (x : Int) : Vl := if fits x then ⟨x, 0⟩ else ⟨0, 1⟩
theorem vlOf_fits {x : Int} (h : -9223372036854775808 ≤ x ∧ x ≤ 9223372036854775807) : vlOf x = ⟨x, 0⟩ := by
 unfold vlOf; rw [if_pos ((fits_iff x).mpr h)]
theorem vlOf_not {x : Int} (h : ¬ (-9223372036854775808 ≤ x ∧ x ≤ 9223372036854775807)) : vlOf x = ⟨0, 1⟩ := by
 unfold vlOf; rw [if_neg (by rw [fits_iff]; exact h)]
structure VlOk (v : Vl) : Prop where
 num : -9223372036854775808 ≤ v.num ∧ v.num ≤ 9223372036854775807
 fault : 0 ≤ v.fault ∧ v.fault ≤ 2
 none : v.fault ≠ 0 → v.num = 0
theorem vlOf_ok (x : Int) : VlOk (vlOf x) := by
 unfold vlOf
 split
 ·rename_i h
  exact ⟨(fits_iff x).mp h, by simp, by simp⟩
 ·exact ⟨by simp, by simp, by simp⟩
end Go.Proofs.Ytdgmoiflahoihaa
