import Derived.Test.YtdgmoiflahoihaaGreatDoorCCheckw
import Derived.Deep.WholeRow
import Derived.Deep.RegionHeld3

namespace Go.Proofs.YtdgmoiflahoihaaGreatDoor
open Go.RowKit
set_option linter.unusedSimpArgs false
set_option linter.unusedVariables false
theorem range_new (w : World) (R : List Nat) : (w.alloc (.cells (arrV R) 69)).rangeAt w.heap.size 0 (R.map natV) := by
 intro j v hv
 rw [Nat.zero_add, cell_of_row _ _ _ _ _ _ (heap_alloc_last w _)]
 simpa [arrV] using hv
theorem range_keep {W w5 : World} {g o : Nat} {cs : List Value} (hb : Below W.heap.size W w5) (h : W.rangeAt g o cs) : w5.rangeAt g o cs := by
 intro j v hv
 have := h j v hv
 rw [hb.cell (block_lt_of_cell this)]
 exact this
set_option maxRecDepth 100000 in
set_option maxHeartbeats 1000000 in
theorem check_flow (s : ByteArray) (w : World) (tw d : Int) (B wk : Nat) (l : List Fl) (R : List Nat) (h : s.size ≤ 400) (hp : ¬ 0 ≤ placeOf s.data.toList) (htw : twiceC (keptL s.data.toList) (atL s.data.toList 0) = some tw) (h3 : ¬ 0 ≤ tw)
  (hbe : beginC (keptL s.data.toList) = some B) (hwk : workF (keptL s.data.toList) ((keptL s.data.toList).length + 1) B (keptL s.data.toList).length = some wk) (h4 : ¬ 5000 < wk)
  (hfl : flowsC (keptL s.data.toList) = some l) (hla : labelsC (keptL s.data.toList) = some R) (hdi : dirtyF (keptL s.data.toList) (atL s.data.toList 0) R ((keptL s.data.toList).length + 1) B (keptL s.data.toList).length 0 = some d) :
  Calls Tryz.prog 43 #[.string s] w fun e w' => e = .returned (if 0 ≤ d then .tuple #[.int .i64 5, .int .i64 d] else .tuple #[.int .i64 0, .int .i64 0]) ∧ Below w.heap.size w w' := by
 generalize hres : (if 0 ≤ d then Value.tuple #[.int .i64 5, .int .i64 d] else .tuple #[.int .i64 0, .int .i64 0]) = res
 have HRES : Hid _ := hres
 clear hres
 generalize hpl : placeOf s.data.toList = pl at *
 have HPL : Hid (placeOf s.data.toList = pl) := hpl
 generalize hCe : keptL s.data.toList = C at *
 generalize hAe : atL s.data.toList 0 = A at *
 have HCe : Hid (keptL s.data.toList = C) := hCe
 have HAe : Hid (atL s.data.toList 0 = A) := hAe
 clear hpl hCe hAe
 have HTW : Hid (twiceC C A = some tw) := htw
 clear htw
 have hBl := begin_le hbe
 have hwl := work_lt hwk
 have HBE : Hid (beginC C = some B) := hbe
 have HWK : Hid (workF C (C.length + 1) B C.length = some wk) := hwk
 have hlabs : labsF C l 26 = some R := by unfold labelsC at hla; rw [hfl] at hla; exact hla
 have hok : FlOk l := by
  have hf2 := hfl
  unfold flowsC at hf2
  rw [HBE.out] at hf2
  exact flows_ok _ _ _ _ _ hf2
 obtain ⟨hRl, hR16⟩ := labsF_ok _ _ hlabs
 have hsz : (arrV R).size = 26 := by simp [arrV, hRl]
 have HDI : Hid _ := hdi
 have HFL : Hid (flowsC C = some l) := hfl
 have HLA : Hid (labsF C l 26 = some R) := hlabs
 have HRL : Hid (R.length = 26) := hRl
 clear hbe hwk hfl hla hlabs hdi hRl
 go_enter Tryz.func43, Tryz.ntmps43
 go_upto_region 10 with (first | (go_at_call 71; refine (place_any s _ h).mono ?_; rintro x1 w1 ⟨rfl, hb1⟩; rw [HPL.out]) | (go_at_call 44; refine (read_any s _ h).mono ?_; rintro x1 w2 ⟨rfl, hb2, hbk⟩; rw [HCe.out, HAe.out] at hbk) | (go_at_call 72; refine (twice_any _ tw C A _ hbk HTW.out).mono ?_; rintro x1 w3 ⟨rfl, hw3⟩; have hbk3 : BookAt w3 w1.heap.size C A := (by obtain ⟨n3, e3⟩ := hw3; rw [e3]; exact hbk.drewN n3); have hb3 : Below w.heap.size w w3 := (by obtain ⟨n3, e3⟩ := hw3; rw [e3]; exact below_drewN (hb1.trans (hb2.mono hb1.size)) n3); clear hw3 hbk))
 obtain ⟨hC, hA, ac, aa, bc, ba, capc, capa, h0, h1, hc, ha⟩ := id hbk3
 have HBK : Hid (BookAt w3 w1.heap.size C A) := hbk3
 clear hbk3 hc ha hb1 hb2
 go_quiet ((first | (go_at_call 47; exact Calls.quiet_of_same (begin_any _ B C A _ (HBK.out.drewN _) HBE.out)) | (go_at_call 73; exact Calls.quiet_of_same (work_any _ _ B C.length wk C A _ (HBK.out.drewN _) HWK.out (by omega) (by omega)))))
 go_wp2_with (first | (go_at_call 74; refine (labels_any _ l R C A _ (HBK.out.drewN _) HFL.out hok HLA.out).mono ?_; rintro x1 w4 ⟨rfl, hb4⟩) | (refine wpList_store_row rfl 69 (.tmp 7) (.tmp 35) rfl w4.heap.size (arrV R) rfl rfl 69 (arrV zero26) (by exact box_zero w4) (by rw [infoArr, hsz]) (by rw [hsz]; rfl) (arr_one R) ?_; rw [World.setRow_alloc_new]))
 simp only [Act.put]
 have hb4' : Below w.heap.size w w4 := (below_drewN hb3 _).trans (hb4.mono (by have := hb3.size; simpa using this))
 have hbk4 : BookAt w4 w1.heap.size C A := (HBK.out.drewN _).below hb4
 clear hb4 hb3 HBK h0 h1
 have hnew : Below w4.heap.size w4 (w4.alloc (.cells (arrV R) 69)) := (Below.refl _ _).alloc (Nat.le_refl _) _
 have hra := range_new w4 R
 have hbW := hb4'.trans (hnew.mono hb4'.size)
 have hbk5 := hbk4.below hnew
 clear hbk4 hb4' hnew
 generalize hgg : w4.heap.size = gg at *
 generalize w4.alloc (.cells (arrV R) 69) = W5 at *
 obtain ⟨_, _, ac4, aa4, bc4, ba4, capc4, capa4, k0, k1, _, _⟩ := id hbk5
 have HBK : Hid (BookAt W5 w1.heap.size C A) := hbk5
 have HBW : Hid (Below w.heap.size w W5) := hbW
 clear hbk5 hbW hgg
 have hlt5 : w1.heap.size < W5.heap.size := block_lt_of_cell k0
 have hu35 := Tryz.underlying69
 have hi35 : (Tryz.prog.info? 69).map (fun i => i.size) = some (R.map natV).length := by rw [infoArr, List.length_map, HRL.out]
 go_region_held3 (fun w' => w'.rangeAt gg 0 (R.map natV) ∧ w'.cell? ⟨w1.heap.size, 0, none⟩ = some (.slice ac4 C.length capc4)) (first | go_keep | exact ⟨range_keep hb5 hra, (hb5.cell (p := ⟨w1.heap.size, 0, none⟩) hlt5).trans k0⟩) (first | (go_at_call 47; refine (begin_any _ B C A _ (by exact HBK.out.below (Below.refl _ _).drew) HBE.out).mono ?_; rintro x1 w5 ⟨rfl, hw5⟩; subst hw5) | (go_at_call 75; refine (dirty_any _ _ B C.length 0 d C A R _ (by exact HBK.out.below (Below.refl _ _).drew) HRL.out hR16 (by decide) HDI.out (by omega) (by omega)).mono ?_; rintro x1 w5 ⟨rfl, hb5⟩))
 have hfin : Below w.heap.size w w5 := HBW.out.drew.trans (hb5.mono (by have := HBW.out.size; simpa using this))
 clear hra k0 k1 hi35 hu35
 by_cases hd : 0 ≤ d
 ·have hr2 := HRES.out
  rw [if_pos hd] at hr2
  have HR2 : Hid _ := hr2
  clear hr2 HRES
  go_wp2_with fail
  go_ret2
  exact ⟨by rw [← HR2.out]; rfl, hfin⟩
 ·have hr2 := HRES.out
  rw [if_neg hd] at hr2
  have HR2 : Hid _ := hr2
  clear hr2 HRES
  go_wp2_with fail
  go_ret2
  exact ⟨by rw [← HR2.out]; rfl, hfin⟩
end Go.Proofs.YtdgmoiflahoihaaGreatDoor
namespace Go.Proofs.YtdgmoiflahoihaaGreatDoor
open Go.RowKit
theorem refCheck_any (s : ByteArray) (w : World) (r : Int × Int) (hs : s.size ≤ maxLen) (ho : checkC s.data.toList = some r) :
  Calls Tryz.prog 43 #[.string s] w fun e w' => e = .returned (.tuple #[.int .i64 r.1, .int .i64 r.2]) ∧ Below w.heap.size w w' := by
 have hsz : s.data.toList.length = s.size := by simp
 unfold checkC at ho
 rw [hsz] at ho
 by_cases h1 : 400 < s.size
 ·rw [if_pos h1] at ho
  cases ho
  exact check_long s w hs h1
 rw [if_neg h1] at ho
 have h : s.size ≤ 400 := by omega
 by_cases h2 : 0 ≤ placeOf s.data.toList
 ·rw [if_pos h2] at ho
  cases ho
  exact check_misform s w h h2
 rw [if_neg h2] at ho
 cases htw : twiceC (keptL s.data.toList) (atL s.data.toList 0) with
 | none => rw [htw] at ho; cases ho
 | some tw =>
 rw [htw] at ho
 simp only at ho
 by_cases h3 : 0 ≤ tw
 ·rw [if_pos h3] at ho
  cases ho
  exact check_name s w tw h h2 htw h3
 rw [if_neg h3] at ho
 cases hbe : beginC (keptL s.data.toList) with
 | none => rw [hbe] at ho; cases ho
 | some B =>
 rw [hbe] at ho
 simp only at ho
 cases hwk : workF (keptL s.data.toList) ((keptL s.data.toList).length + 1) B (keptL s.data.toList).length with
 | none => rw [hwk] at ho; cases ho
 | some wk =>
 rw [hwk] at ho
 simp only at ho
 by_cases h4 : 5000 < wk
 ·rw [if_pos h4] at ho
  cases ho
  exact check_large s w tw B wk h h2 htw h3 hbe hwk h4
 rw [if_neg h4] at ho
 cases hfl : flowsC (keptL s.data.toList) with
 | none => rw [hfl] at ho; cases ho
 | some l =>
 cases hla : labelsC (keptL s.data.toList) with
 | none => rw [hfl, hla] at ho; cases ho
 | some R =>
 rw [hfl, hla] at ho
 simp only at ho
 cases hdi : dirtyF (keptL s.data.toList) (atL s.data.toList 0) R ((keptL s.data.toList).length + 1) B (keptL s.data.toList).length 0 with
 | none => rw [hdi] at ho; cases ho
 | some d =>
 rw [hdi] at ho
 simp only at ho
 have hf := check_flow s w tw d B wk l R h h2 htw h3 hbe hwk h4 hfl hla hdi
 by_cases h5 : 0 ≤ d
 ·rw [if_pos h5] at ho hf
  cases ho
  exact hf
 ·rw [if_neg h5] at ho hf
  cases ho
  exact hf
end Go.Proofs.YtdgmoiflahoihaaGreatDoor
