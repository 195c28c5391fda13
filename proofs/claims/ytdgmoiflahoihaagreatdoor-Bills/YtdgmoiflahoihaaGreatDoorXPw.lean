import Derived.Test.YtdgmoiflahoihaaGreatDoorPCheckw
import Derived.Test.YtdgmoiflahoihaaGreatDoorVAw

namespace Go.Proofs.YtdgmoiflahoihaaGreatDoor
open Go.RowKit
set_option linter.unusedSimpArgs false
set_option linter.unusedVariables false
structure XS where
 regs : List Vl
 notes : List Nt
 pc : Nat
def regs0 : List Vl := List.replicate 100 vl0
def x0 : XS := ⟨regs0, [], 0⟩
def FsOk (fs : List Int) : Prop := ∀ x ∈ fs, -9223372036854775808 ≤ x ∧ x ≤ 9223372036854775807
end Go.Proofs.YtdgmoiflahoihaaGreatDoor
