import Derived.Test.YtdgmoiflahoihaaCLabelsx
import Derived.Deep.QuietTactic
import Derived.BigQuiet
import Derived.Deep.WholeRow
import Derived.Deep.RegionHeld3

namespace Go.Proofs.Ytdgmoiflahoihaa
open Go.RowKit
set_option linter.unusedSimpArgs false
set_option linter.unusedVariables false
theorem range_keep {W w5 : World} {g o : Nat} {cs : List Value} (hb : Below W.heap.size W w5) (h : W.rangeAt g o cs) : w5.rangeAt g o cs := by
 intro j v hv
 have := h j v hv
 rw [hb.cell (block_lt_of_cell this)]
 exact this
end Go.Proofs.Ytdgmoiflahoihaa
namespace Go.Proofs.Ytdgmoiflahoihaa
open Go.RowKit
end Go.Proofs.Ytdgmoiflahoihaa
