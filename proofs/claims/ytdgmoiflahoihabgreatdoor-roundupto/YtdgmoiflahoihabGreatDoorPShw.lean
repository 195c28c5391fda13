import Derived.Test.YtdgmoiflahoihabGreatDoorPCheckw

namespace Go.Proofs.YtdgmoiflahoihabGreatDoor
set_option linter.unusedSimpArgs false
set_option linter.unusedVariables false
def Rd.sh (n : Nat) (r : Rd) : Rd := { r with pos := n + r.pos }
section
variable {P t : List UInt8}
def Hd.sh (n : Nat) (h : Hd) : Hd := { h with place := n + h.place }
end
end Go.Proofs.YtdgmoiflahoihabGreatDoor
namespace Go.Proofs.YtdgmoiflahoihabGreatDoor
set_option linter.unusedSimpArgs false
set_option linter.unusedVariables false
section
variable {P t : List UInt8} {n : Nat} {cmp cmp' : RP → RP}
end
end Go.Proofs.YtdgmoiflahoihabGreatDoor
namespace Go.Proofs.YtdgmoiflahoihabGreatDoor
set_option linter.unusedSimpArgs false
set_option linter.unusedVariables false
end Go.Proofs.YtdgmoiflahoihabGreatDoor
namespace Go.Proofs.YtdgmoiflahoihabGreatDoor
set_option linter.unusedSimpArgs false
set_option linter.unusedVariables false
end Go.Proofs.YtdgmoiflahoihabGreatDoor
namespace Go.Proofs.YtdgmoiflahoihabGreatDoor
set_option linter.unusedSimpArgs false
set_option linter.unusedVariables false
end Go.Proofs.YtdgmoiflahoihabGreatDoor
namespace Go.Proofs.YtdgmoiflahoihabGreatDoor
set_option linter.unusedSimpArgs false
set_option linter.unusedVariables false
end Go.Proofs.YtdgmoiflahoihabGreatDoor
namespace Go.Proofs.YtdgmoiflahoihabGreatDoor
set_option linter.unusedSimpArgs false
set_option linter.unusedVariables false
end Go.Proofs.YtdgmoiflahoihabGreatDoor
