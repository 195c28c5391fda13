import Derived.Test.YtdgmoiflahoihaaRExw
import Derived.Test.YtdgmoiflahoihaaVPw

namespace Go.Proofs.Ytdgmoiflahoihaa
open Go.RowKit
set_option linter.unusedSimpArgs false
set_option linter.unusedVariables false
end Go.Proofs.Ytdgmoiflahoihaa
namespace Go.Proofs.Ytdgmoiflahoihaa
open Go.RowKit
set_option linter.unusedSimpArgs false
set_option linter.unusedVariables false
abbrev vlV (v : Vl) : Value := .agg #[.int .i64 v.num, .int .i64 v.fault]
def GivesV (f : Nat) (args : Array Value) (v : Vl) : Prop := ∀ w, Calls Try.prog f args w fun e w' => e = .returned (vlV v) ∧ Below w.heap.size w w'
set_option maxHeartbeats 400000 in
theorem number_any (n : Int) : GivesV 113 #[.int .i64 n] ⟨n, 0⟩ := by
 intro w
 go_enter Try.func113, Try.ntmps113
 go_wp2_with fail
 exact bodyPost_ret (v := vlV ⟨n, 0⟩) (by simp [results, Try.results113, go_sem]) rfl ⟨rfl, by exact (Below.refl _ _).alloc (Nat.le_refl _) _⟩
end Go.Proofs.Ytdgmoiflahoihaa
namespace Go.Proofs.Ytdgmoiflahoihaa
open Go.RowKit
set_option linter.unusedSimpArgs false
set_option linter.unusedVariables false
end Go.Proofs.Ytdgmoiflahoihaa
