import Derived.Test.YtdgmoiflahoihabGreatDoorSIWw
import Derived.Test.YtdgmoiflahoihabGreatDoorPCheckw
import Derived.Test.YtdgmoiflahoihabGreatDoorBBw
import Derived.Deep.MidRow
import Derived.Laws.ResultCell
import Derived.Deep.RegionHeld3
import Derived.Test.YtdgmoiflahoihabGreatDoorLRPw
import Derived.Test.YtdgmoiflahoihabGreatDoorKWw

namespace Go.Proofs.YtdgmoiflahoihabGreatDoor
open Go.RowKit
set_option linter.unusedSimpArgs false
set_option linter.unusedVariables false
end Go.Proofs.YtdgmoiflahoihabGreatDoor
namespace Go.Proofs.YtdgmoiflahoihabGreatDoor
open Go.RowKit
set_option linter.unusedSimpArgs false
set_option linter.unusedVariables false
theorem numT {w : World} {b : Nat} {l : List Int} {t : TypeId} (h : w.heap[b]? = some (.cells (numRow l).toArray t (0, 0))) : NumCells w (some ⟨b, 0, none⟩) b 0 l := num_row h
end Go.Proofs.YtdgmoiflahoihabGreatDoor
namespace Go.Proofs.YtdgmoiflahoihabGreatDoor
open Go.RowKit
set_option linter.unusedSimpArgs false
set_option linter.unusedVariables false
theorem smplT (i : Nat) : (smplS i).data.toList = smpl i := by simp [smplS]
end Go.Proofs.YtdgmoiflahoihabGreatDoor
