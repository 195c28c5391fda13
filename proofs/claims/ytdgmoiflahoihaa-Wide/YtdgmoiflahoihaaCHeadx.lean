import Derived.Test.YtdgmoiflahoihaaCBitsx
import Derived.Test.YtdgmoiflahoihaaPlainx
import Derived.Deep.QuietTactic
import Derived.BigQuiet

namespace Go.Proofs.Ytdgmoiflahoihaa
open Go.RowKit
set_option linter.unusedSimpArgs false
set_option linter.unusedVariables false
theorem BookAt.below {w w' : World} {b : Nat} {C : List UInt8} {A : List Int} (h : BookAt w b C A) (hb : Below w.heap.size w w') : BookAt w' b C A := by
 obtain ⟨hC, hA, ac, aa, bc, ba, capc, capa, h0, h1, hc, ha⟩ := h
 have k := fun (p : Addr) (v : Value) (e : w.cell? p = some v) => (hb.cell (block_lt_of_cell e)).trans e
 exact ⟨hC, hA, ac, aa, bc, ba, capc, capa, k _ _ h0, k _ _ h1, fun i hi => ⟨(hc i hi).1, k _ _ (hc i hi).2⟩, fun i hi => ⟨(ha i hi).1, k _ _ (ha i hi).2⟩⟩
end Go.Proofs.Ytdgmoiflahoihaa
namespace Go.Proofs.Ytdgmoiflahoihaa
open Go.RowKit
set_option linter.unusedSimpArgs false
set_option linter.unusedVariables false
theorem BookAt.drewN {w : World} {b : Nat} {C : List UInt8} {A : List Int} (h : BookAt w b C A) (n : Nat) : BookAt (w.drewN n) b C A :=
 h.below (below_drewN (Below.refl _ _) n)
end Go.Proofs.Ytdgmoiflahoihaa
