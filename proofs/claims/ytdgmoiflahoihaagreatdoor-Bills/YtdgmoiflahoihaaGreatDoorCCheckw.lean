import Derived.Test.YtdgmoiflahoihaaGreatDoorCLabelsw
import Derived.Deep.QuietTactic
import Derived.BigQuiet
import Derived.Deep.WholeRow

namespace Go.Proofs.YtdgmoiflahoihaaGreatDoor
open Go.RowKit
set_option linter.unusedSimpArgs false
set_option linter.unusedVariables false
def checkC (t : List UInt8) : Option (Int × Int) :=
 if 400 < t.length then some (1, 0)
 else if 0 ≤ placeOf t then some (2, placeOf t)
 else
  match twiceC (keptL t) (atL t 0) with
  | none => none
  | some tw =>
   if 0 ≤ tw then some (3, tw)
   else
    match beginC (keptL t) with
    | none => none
    | some B =>
     match workF (keptL t) ((keptL t).length + 1) B (keptL t).length with
     | none => none
     | some wk =>
      if 5000 < wk then some (4, 0)
      else
       match flowsC (keptL t), labelsC (keptL t) with
       | some l, some R =>
        match dirtyF (keptL t) (atL t 0) R ((keptL t).length + 1) B (keptL t).length 0 with
        | none => none
        | some d => if 0 ≤ d then some (5, d) else some (0, 0)
       | _, _ => none
set_option maxRecDepth 100000 in
set_option maxHeartbeats 2000000 in
theorem check_long (s : ByteArray) (w : World) (hs : s.size ≤ maxLen) (h : 400 < s.size) :
  Calls Tryz.prog 43 #[.string s] w fun e w' => e = .returned (.tuple #[.int .i64 1, .int .i64 0]) ∧ Below w.heap.size w w' := by
 unfold maxLen at hs
 go_enter Tryz.func43, Tryz.ntmps43
 go_wp2_with fail
 go_ret2
 exact ⟨rfl, Below.refl _ _⟩
set_option maxRecDepth 100000 in
set_option maxHeartbeats 2000000 in
theorem check_misform (s : ByteArray) (w : World) (h : s.size ≤ 400) (hp : 0 ≤ placeOf s.data.toList) :
  Calls Tryz.prog 43 #[.string s] w fun e w' => e = .returned (.tuple #[.int .i64 2, .int .i64 (placeOf s.data.toList)]) ∧ Below w.heap.size w w' := by
 generalize hpl : placeOf s.data.toList = pl at *
 have HPL : Hid (placeOf s.data.toList = pl) := hpl
 clear hpl
 go_enter Tryz.func43, Tryz.ntmps43
 go_wp2_with (go_at_call 71; refine (place_any s _ h).mono ?_; rintro x1 w1 ⟨rfl, hb1⟩; rw [HPL.out])
 go_ret2
 exact ⟨rfl, hb1⟩
set_option maxRecDepth 100000 in
set_option maxHeartbeats 2000000 in
theorem check_name (s : ByteArray) (w : World) (tw : Int) (h : s.size ≤ 400) (hp : ¬ 0 ≤ placeOf s.data.toList) (htw : twiceC (keptL s.data.toList) (atL s.data.toList 0) = some tw) (h3 : 0 ≤ tw) :
  Calls Tryz.prog 43 #[.string s] w fun e w' => e = .returned (.tuple #[.int .i64 3, .int .i64 tw]) ∧ Below w.heap.size w w' := by
 generalize hpl : placeOf s.data.toList = pl at *
 have HPL : Hid (placeOf s.data.toList = pl) := hpl
 generalize hCe : keptL s.data.toList = C at *
 generalize hAe : atL s.data.toList 0 = A at *
 have HCe : Hid (keptL s.data.toList = C) := hCe
 have HAe : Hid (atL s.data.toList 0 = A) := hAe
 clear hpl hCe hAe
 have HTW : Hid (twiceC C A = some tw) := htw
 clear htw
 go_enter Tryz.func43, Tryz.ntmps43
 go_wp2_with (first | (go_at_call 71; refine (place_any s _ h).mono ?_; rintro x1 w1 ⟨rfl, hb1⟩; rw [HPL.out]) | (go_at_call 44; refine (read_any s _ h).mono ?_; rintro x1 w2 ⟨rfl, hb2, hbk⟩; rw [HCe.out, HAe.out] at hbk) | (go_at_call 72; refine (twice_any _ tw C A _ hbk HTW.out).mono ?_; rintro x1 w3 ⟨rfl, hw3⟩; have hbk3 : BookAt w3 w1.heap.size C A := (by obtain ⟨n3, e3⟩ := hw3; rw [e3]; exact hbk.drewN n3); have hb3 : Below w.heap.size w w3 := (by obtain ⟨n3, e3⟩ := hw3; rw [e3]; exact below_drewN (hb1.trans (hb2.mono hb1.size)) n3); clear hw3 hbk))
 go_ret2
 exact ⟨rfl, hb3⟩
set_option maxRecDepth 100000 in
set_option maxHeartbeats 2000000 in
theorem check_large (s : ByteArray) (w : World) (tw : Int) (B wk : Nat) (h : s.size ≤ 400) (hp : ¬ 0 ≤ placeOf s.data.toList) (htw : twiceC (keptL s.data.toList) (atL s.data.toList 0) = some tw) (h3 : ¬ 0 ≤ tw)
  (hbe : beginC (keptL s.data.toList) = some B) (hwk : workF (keptL s.data.toList) ((keptL s.data.toList).length + 1) B (keptL s.data.toList).length = some wk) (h4 : 5000 < wk) :
  Calls Tryz.prog 43 #[.string s] w fun e w' => e = .returned (.tuple #[.int .i64 4, .int .i64 0]) ∧ Below w.heap.size w w' := by
 generalize hpl : placeOf s.data.toList = pl at *
 have HPL : Hid (placeOf s.data.toList = pl) := hpl
 generalize hCe : keptL s.data.toList = C at *
 generalize hAe : atL s.data.toList 0 = A at *
 have HCe : Hid (keptL s.data.toList = C) := hCe
 have HAe : Hid (atL s.data.toList 0 = A) := hAe
 clear hpl hCe hAe
 have HTW : Hid (twiceC C A = some tw) := htw
 clear htw
 have hBl := begin_le hbe
 have hwl := work_lt hwk
 have HBE : Hid (beginC C = some B) := hbe
 have HWK : Hid (workF C (C.length + 1) B C.length = some wk) := hwk
 clear hbe hwk
 go_enter Tryz.func43, Tryz.ntmps43
 go_upto_region 10 with (first | (go_at_call 71; refine (place_any s _ h).mono ?_; rintro x1 w1 ⟨rfl, hb1⟩; rw [HPL.out]) | (go_at_call 44; refine (read_any s _ h).mono ?_; rintro x1 w2 ⟨rfl, hb2, hbk⟩; rw [HCe.out, HAe.out] at hbk) | (go_at_call 72; refine (twice_any _ tw C A _ hbk HTW.out).mono ?_; rintro x1 w3 ⟨rfl, hw3⟩; have hbk3 : BookAt w3 w1.heap.size C A := (by obtain ⟨n3, e3⟩ := hw3; rw [e3]; exact hbk.drewN n3); have hb3 : Below w.heap.size w w3 := (by obtain ⟨n3, e3⟩ := hw3; rw [e3]; exact below_drewN (hb1.trans (hb2.mono hb1.size)) n3); clear hw3 hbk))
 obtain ⟨hC, hA, ac, aa, bc, ba, capc, capa, h0, h1, hc, ha⟩ := id hbk3
 have HBK : Hid (BookAt w3 w1.heap.size C A) := hbk3
 clear hbk3 hc ha hb1 hb2
 go_quiet ((first | (go_at_call 47; exact Calls.quiet_of_same (begin_any _ B C A _ (HBK.out.drewN _) HBE.out)) | (go_at_call 73; exact Calls.quiet_of_same (work_any _ _ B C.length wk C A _ (HBK.out.drewN _) HWK.out (by omega) (by omega)))))
 go_wp2_with fail
 go_ret2
 exact ⟨rfl, below_drewN hb3 _⟩
end Go.Proofs.YtdgmoiflahoihaaGreatDoor
