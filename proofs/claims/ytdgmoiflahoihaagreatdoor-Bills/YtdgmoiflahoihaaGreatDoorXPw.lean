import Derived.Test.YtdgmoiflahoihaaGreatDoorLNmw
import Derived.Test.YtdgmoiflahoihaaGreatDoorPCheckw
import Derived.Test.YtdgmoiflahoihaaGreatDoorVAw

namespace Go.Proofs.YtdgmoiflahoihaaGreatDoor
open Go.RowKit
set_option linter.unusedSimpArgs false
set_option linter.unusedVariables false
structure XS where
 regs : List Vl
 notes : List Nt
 pc : Nat
def regs0 : List Vl := List.replicate 100 vl0
def x0 : XS := ⟨regs0, [], 0⟩
end Go.Proofs.YtdgmoiflahoihaaGreatDoor
namespace Go.Proofs.YtdgmoiflahoihaaGreatDoor
open Go.RowKit
set_option linter.unusedSimpArgs false
set_option linter.unusedVariables false
end Go.Proofs.YtdgmoiflahoihaaGreatDoor
