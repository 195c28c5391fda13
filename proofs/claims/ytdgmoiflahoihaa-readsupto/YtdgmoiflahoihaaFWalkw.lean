import Derived.Test.YtdgmoiflahoihaaRows
import Derived.Test.YtdgmoiflahoihaaPlainw
import Derived.WalkKit
import Derived.WalkSpells
import Derived.WalkLawsBesides

namespace Go.Proofs.Ytdgmoiflahoihaa
open Go.RowKit
set_option linter.unusedSimpArgs false
set_option linter.unusedVariables false
set_option maxHeartbeats 400000 in
theorem isDg_any (c : Int) (w : World) :
  Calls Try.prog 84 #[.int .i64 c] w fun e w' => e = .returned (.bool (isDg c)) ∧ w' = w := by
 go_enter Try.func84, Try.ntmps84
 go_wp2
 all_goals go_ret
 all_goals (refine ⟨?_, rfl⟩; simp [isDg, *]; try omega)
end Go.Proofs.Ytdgmoiflahoihaa
namespace Go.Proofs.Ytdgmoiflahoihaa
open Go.RowKit
set_option linter.unusedSimpArgs false
set_option linter.unusedVariables false
end Go.Proofs.Ytdgmoiflahoihaa
