import Derived.Test.YtdgmoiflahoihabGreatDoorPLew
import Derived.Test.YtdgmoiflahoihabGreatDoorPQw

namespace Go.Proofs.YtdgmoiflahoihabGreatDoor
open Go.RowKit
set_option linter.unusedSimpArgs false
set_option linter.unusedVariables false
structure FineT (t : List UInt8) : Prop where
 len : t.length ≤ 400
 bad : (parseR t).1.bad = false
 once : twiceL [] (parseH t).2 = none
 work : ¬ 5000 < workS 9 (parseR t).2
 clean : cleanF (labelsP (parseH t).2 (parseR t).2) 9 0 (parseR t).2 = none
 parse : ParseOk t
theorem fineT {t : List UInt8} (h : (checkP t).1 = 0) : FineT t := by
 unfold checkP at h
 split at h
 ·simp at h
 rename_i h1
 split at h
 ·simp at h
 rename_i h2
 simp only [Bool.not_eq_true] at h2
 cases h3 : twiceL [] (parseH t).2 with
 | some p => rw [h3] at h; simp at h
 | none =>
  rw [h3] at h
  simp only at h
  split at h
  ·simp at h
  rename_i h4
  cases h5 : cleanF (labelsP (parseH t).2 (parseR t).2) 9 0 (parseR t).2 with
  | some p => rw [h5] at h; simp at h
  | none => exact ⟨by omega, h2, h3, h4, h5, parse_ok (by omega) h2⟩
theorem labs_fine {t : List UInt8} (h : (checkP t).1 = 0) : (labsP t).length = 26 ∧ (∀ i, (labsP t).getD i 0 < 16) ∧ labsP t = labelsP (parseH t).2 (parseR t).2 := by
 have f := fineT h
 have e : labsP t = labelsP (parseH t).2 (parseR t).2 := by unfold labsP; rw [if_pos h]
 have o := labelsP_ok f.parse.heads f.parse.tree
 rw [e]
 refine ⟨o.len, fun i => ?_, rfl⟩
 rw [List.getD_eq_getElem?_getD]
 cases hi : (labelsP (parseH t).2 (parseR t).2)[i]? with
 | none => simp
 | some m => exact o.lt m (List.mem_of_getElem? hi)
end Go.Proofs.YtdgmoiflahoihabGreatDoor
