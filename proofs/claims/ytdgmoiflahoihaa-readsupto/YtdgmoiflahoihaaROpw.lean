import Derived.OwnWalk
import Derived.Test.YtdgmoiflahoihaaRVw
import Derived.Test.YtdgmoiflahoihaaFWalkw
import Derived.Deep.Cut
import Derived.Deep.CutRange

namespace Go.Proofs.Ytdgmoiflahoihaa
open Go.RowKit
set_option linter.unusedSimpArgs false
set_option linter.unusedVariables false
theorem rv_int {k : IntKind} {a b : Int} (h : a = b) : Ending.returned (.int k a) = .returned (.int k b) := by rw [h]
theorem rv_nb {a b : Int} {p q : Bool} (h : a = b) (k : p = q) : Ending.returned (.tuple #[.int .i64 a, .bool p]) = .returned (.tuple #[.int .i64 b, .bool q]) := by rw [h, k]
theorem u64_wrap (x : Int) : IntKind.u64.wrap x = x % 18446744073709551616 := by
 simp [IntKind.wrap, IntKind.bits, IntKind.signed]
set_option maxHeartbeats 1000000 in
theorem sized_any (a : Int) (ha : -9223372036854775808 ≤ a ∧ a ≤ 9223372036854775807) (w : World) :
  Calls Try.prog 127 #[.int .i64 a] w fun e w' => e = .returned (.int .u64 (a.natAbs : Nat)) ∧ w' = w := by
 obtain ⟨h1, h2⟩ := ha
 by_cases a0 : a < 0
 ·obtain ⟨n, rfl⟩ : ∃ n : Nat, a = -(n : Int) := ⟨a.natAbs, by omega⟩
  have e : (-(n : Int)).natAbs = n := by omega
  rw [e]
  go_enter Try.func127, Try.ntmps127
  go_wp2_with fail
  go_ret
  refine ⟨rv_int ?_, rfl⟩
  simp only [u64_wrap]
  omega
 ·obtain ⟨n, rfl⟩ : ∃ n : Nat, a = (n : Int) := ⟨a.natAbs, by omega⟩
  have e : (n : Int).natAbs = n := by omega
  rw [e]
  go_enter Try.func127, Try.ntmps127
  go_wp2_with fail
  go_ret
  refine ⟨rv_int ?_, rfl⟩
  try simp only [u64_wrap]
  try omega
set_option maxHeartbeats 1000000 in
theorem signed_plus (n : Int) (h0 : 0 ≤ n) (hn : n < 18446744073709551616) (w : World) :
  Calls Try.prog 126 #[.int .u64 n, .bool false] w fun e w' => e = .returned (.tuple #[.int .i64 (wrap64 n), .bool (decide (n < 9223372036854775808))]) ∧ w' = w := by
 go_enter Try.func126, Try.ntmps126
 go_wp2_with fail
 go_ret2
 exact ⟨rfl, rfl⟩
set_option maxHeartbeats 1000000 in
theorem signed_minus (n : Int) (h0 : 0 ≤ n) (hn : n < 18446744073709551616) (w : World) :
  Calls Try.prog 126 #[.int .u64 n, .bool true] w fun e w' => e = .returned (.tuple #[.int .i64 (wrap64 (-n)), .bool (decide (n ≤ 9223372036854775808))]) ∧ w' = w := by
 go_enter Try.func126, Try.ntmps126
 go_wp2_with fail
 go_ret2
 refine ⟨rv_nb ?_ rfl, rfl⟩
 simp only [u64_wrap, wrap64]
 omega
theorem signed_any (n : Int) (s : Bool) (h0 : 0 ≤ n) (hn : n < 18446744073709551616) (w : World) :
  Calls Try.prog 126 #[.int .u64 n, .bool s] w fun e w' => e = .returned (.tuple #[.int .i64 (wrap64 (if s then -n else n)), .bool (if s then decide (n ≤ 9223372036854775808) else decide (n < 9223372036854775808))]) ∧ w' = w := by
 cases s
 ·exact signed_plus n h0 hn w
 ·exact signed_minus n h0 hn w
end Go.Proofs.Ytdgmoiflahoihaa
