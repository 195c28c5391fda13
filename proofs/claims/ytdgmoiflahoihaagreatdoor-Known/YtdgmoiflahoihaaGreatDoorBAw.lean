import Derived.Test.YtdgmoiflahoihaaGreatDoorRows
import Derived.Test.YtdgmoiflahoihaaGreatDoorPlainw
import Derived.WalkKit
import Derived.WalkSpells
import Derived.WalkLawsBesides

namespace Go.Proofs.YtdgmoiflahoihaaGreatDoor
open Go.RowKit
set_option linter.unusedSimpArgs false
set_option linter.unusedVariables false
theorem u8_ne {a b : UInt8} (h : a ≠ b) : ((a.toNat : Int) == (b.toNat : Int)) = false := by
 simp only [beq_eq_false_iff_ne, ne_eq]
 intro k
 exact h (UInt8.toNat_inj.mp (by omega))
end Go.Proofs.YtdgmoiflahoihaaGreatDoor
