import Derived.Test.YtdgmoiflahoihaaPlainx
import Derived.Test.YtdgmoiflahoihaaFNextx

namespace Go.Proofs.Ytdgmoiflahoihaa
open Go.RowKit
set_option linter.unusedSimpArgs false
set_option linter.unusedVariables false
theorem ret_int {k : IntKind} {a b : Int} (h : a = b) : Ending.returned (.int k a) = .returned (.int k b) := by rw [h]
structure BookAt (w : World) (b : Nat) (C : List UInt8) (A : List Int) : Prop where
 small : C.length ≤ 400
 same : A.length = C.length
 here : ∃ (ac aa : Option Addr) (bc ba capc capa : Nat), w.cell? ⟨b, 0, none⟩ = some (.slice ac C.length capc) ∧ w.cell? ⟨b, 1, none⟩ = some (.slice aa C.length capa) ∧
  (∀ i, ∀ h : i < C.length, ac = some ⟨bc, 0, none⟩ ∧ w.cell? ⟨bc, i, none⟩ = some (.int .u8 C[i].toNat)) ∧
  (∀ i, ∀ h : i < A.length, aa = some ⟨ba, 0, none⟩ ∧ w.cell? ⟨ba, i, none⟩ = some (.int .i64 A[i]))
end Go.Proofs.Ytdgmoiflahoihaa
namespace Go.Proofs.Ytdgmoiflahoihaa
open Go.RowKit
set_option linter.unusedSimpArgs false
set_option linter.unusedVariables false
end Go.Proofs.Ytdgmoiflahoihaa
