import Derived.Test.YtdgmoiflahoihabGreatDoorPLew
import Derived.Test.YtdgmoiflahoihabGreatDoorPQw

namespace Go.Proofs.YtdgmoiflahoihabGreatDoor
open Go.RowKit
set_option linter.unusedSimpArgs false
set_option linter.unusedVariables false
structure FineT (t : List UInt8) : Prop where
 len : t.length ≤ 400
 bad : (parseR t).1.bad = false
 once : twiceL [] (parseH t).2 = none
 work : ¬ 5000 < workS 9 (parseR t).2
 clean : cleanF (labelsP (parseH t).2 (parseR t).2) 9 0 (parseR t).2 = none
 parse : ParseOk t
theorem fineT {t : List UInt8} (h : (checkP t).1 = 0) : FineT t := by
 unfold checkP at h
 split at h
 ·simp at h
 rename_i h1
 split at h
 ·simp at h
 rename_i h2
 simp only [Bool.not_eq_true] at h2
 cases h3 : twiceL [] (parseH t).2 with
 | some p => rw [h3] at h; simp at h
 | none =>
  rw [h3] at h
  simp only at h
  split at h
  ·simp at h
  rename_i h4
  cases h5 : cleanF (labelsP (parseH t).2 (parseR t).2) 9 0 (parseR t).2 with
  | some p => rw [h5] at h; simp at h
  | none => exact ⟨by omega, h2, h3, h4, h5, parse_ok (by omega) h2⟩
end Go.Proofs.YtdgmoiflahoihabGreatDoor
