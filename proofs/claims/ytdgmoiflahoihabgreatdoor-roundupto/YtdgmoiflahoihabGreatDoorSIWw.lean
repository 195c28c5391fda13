import Derived.Test.YtdgmoiflahoihabGreatDoorSIQw
import Derived.Test.YtdgmoiflahoihabGreatDoorBLWw
import Derived.Test.YtdgmoiflahoihabGreatDoorKWw

namespace Go.Proofs.YtdgmoiflahoihabGreatDoor
open Go.RowKit
set_option linter.unusedSimpArgs false
set_option linter.unusedVariables false
theorem or_goes {a r : Nat} (ha : a < 16) (hr : r < 16) : (bits .or .i64 (a : Int) (r : Int) == (r : Int)) = goesB a r ∧ (bits .or .i64 (a : Int) (r : Int) != (r : Int)) = !goesB a r := by
 have e : bits .or .i64 (a : Int) (r : Int) = ((a ||| r : Nat) : Int) := i64_or_nat a r (by omega) (by omega)
 rw [e]
 have h1 : (((a ||| r : Nat) : Int) == (r : Int)) = goesB a r := by
  unfold goesB
  rw [Bool.eq_iff_iff, beq_iff_eq, decide_eq_true_iff]
  omega
 exact ⟨h1, by rw [bne, h1]⟩
end Go.Proofs.YtdgmoiflahoihabGreatDoor
