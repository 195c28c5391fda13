import Derived.Test.YtdgmoiflahoihaaFNextx
import Derived.Test.YtdgmoiflahoihaaPlainx
import Derived.RegionTactic
import Derived.ChangeAlike
import Derived.Deep.RegionWith
import Derived.Deep.Cut
import Derived.Deep.CutRange

namespace Go.Proofs.Ytdgmoiflahoihaa
open Go.RowKit
set_option linter.unusedSimpArgs false
set_option linter.unusedVariables false
theorem ret_int {k : IntKind} {a b : Int} (h : a = b) : Ending.returned (.int k a) = .returned (.int k b) := by rw [h]
end Go.Proofs.Ytdgmoiflahoihaa
