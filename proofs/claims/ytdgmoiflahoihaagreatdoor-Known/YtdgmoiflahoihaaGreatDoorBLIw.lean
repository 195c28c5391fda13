import Derived.Test.YtdgmoiflahoihaaGreatDoorBLSw
import Derived.Test.YtdgmoiflahoihaaGreatDoorBLPw
import Derived.Test.YtdgmoiflahoihaaGreatDoorBDXw
import Derived.Lib.LaidTab

namespace Go.Proofs.YtdgmoiflahoihaaGreatDoor
open Go.RowKit
set_option linter.unusedSimpArgs false
set_option linter.unusedVariables false
def TabOk (w : World) : Prop := Lib.TabIs Tryz.prog w "internal/strconv.uint64pow10" .u64 Lib.pow10Tab
theorem TabOk.below {w w' : World} (h : TabOk w) (hb : Below w.heap.size w w') : TabOk w' := by
 unfold TabOk Lib.TabIs World.var? at h ⊢
 cases hg : Tryz.prog.globalNamed "internal/strconv.uint64pow10" with
 | none => rw [hg] at h; cases h
 | some g =>
  rw [hg] at h
  simp only [Option.bind_some] at h ⊢
  have hlt : g < w.heap.size := by
   rcases Nat.lt_or_ge g w.heap.size with h' | h'
   ·exact h'
   ·rw [Array.getElem?_eq_none h'] at h; cases h
  rw [hb.block _ hlt]
  exact h
theorem itoa_any (n : Int) (hn : -9223372036854775808 ≤ n ∧ n ≤ 9223372036854775807) (w : World) (ht : TabOk w) :
  Calls Tryz.prog 103 #[.int .i64 n] w fun e w' => e = .returned (.string (txt (intB n))) ∧ Below w.heap.size w w' := by
 have h := Any.strconv_Itoa Tryz.laysItoa n hn.1 hn.2 w ht
 refine Calls.mono h ?_
 rintro e w' ⟨rfl, k, os, rfl⟩
 refine ⟨by rw [itoa_int]; rfl, rfl, rfl, rfl, ?_, ?_⟩
 ·show w.heap.size ≤ (w.heap ++ os).size
  simp
 ·intro j hj
  show (w.heap ++ os)[j]? = w.heap[j]?
  rw [Array.getElem?_append_left hj]
end Go.Proofs.YtdgmoiflahoihaaGreatDoor
