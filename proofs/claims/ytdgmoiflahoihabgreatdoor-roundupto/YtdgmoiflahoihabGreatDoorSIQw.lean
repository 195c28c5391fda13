import Derived.Test.YtdgmoiflahoihabGreatDoorSIPw
import Derived.Test.YtdgmoiflahoihabGreatDoorBLPw
import Derived.Test.YtdgmoiflahoihabGreatDoorPLe6w

namespace Go.Proofs.YtdgmoiflahoihabGreatDoor
open Go.RowKit
set_option linter.unusedSimpArgs false
set_option linter.unusedVariables false
def fieldN (hs : List Hd) : List Int := (hs.filter (·.field)).map (·.name)
theorem fieldN_len (hs : List Hd) : (fieldN hs).length = countF hs := by
 unfold fieldN countF
 simp
end Go.Proofs.YtdgmoiflahoihabGreatDoor
