import Derived.Test.YtdgmoiflahoihaaGreatDoorBLWw
import Derived.Test.YtdgmoiflahoihaaGreatDoorBDNw
import Derived.Test.YtdgmoiflahoihaaGreatDoorRARw
import Derived.Deep.RegionWith
import Derived.Deep.RegionHeld3
import Derived.Deep.Cut
import Derived.Deep.CutRange
import Derived.Test.YtdgmoiflahoihaaGreatDoorLIw

namespace Go.Proofs.YtdgmoiflahoihaaGreatDoor
open Go.RowKit
set_option linter.unusedSimpArgs false
set_option linter.unusedVariables false
set_option maxHeartbeats 1000000 in
theorem goesB_any (a b : Int) (w : World) : Calls Tryz.prog 22 #[.int .i64 a, .int .i64 b] w fun e w' => e = .returned (.bool (bits .or .i64 a b == b)) ∧ w' = w := by
 go_enter Tryz.func22, Tryz.ntmps22
 go_wp2_with fail
 go_ret
 exact ⟨rfl, rfl⟩
theorem more_txt (M : List UInt8) (x : Nt) : txt M ++ txt (intB (x.place : Int)) ++ ⟨#[58]⟩ ++ txt (worthB x.val) ++ ⟨#[10]⟩ = txt (M ++ noteB x) := by
 rw [txt_append]
 have e1 : txt (M ++ intB (x.place : Int)) ++ ⟨#[58]⟩ = txt (M ++ intB (x.place : Int) ++ [58]) := txt_append _ [58]
 rw [e1, txt_append]
 have e2 : txt (M ++ intB (x.place : Int) ++ [58] ++ worthB x.val) ++ ⟨#[10]⟩ = txt (M ++ intB (x.place : Int) ++ [58] ++ worthB x.val ++ [10]) := txt_append _ [10]
 rw [e2]
 unfold noteB lineB
 simp
set_option maxRecDepth 100000 in
set_option maxHeartbeats 4000000 in
theorem refBill_any (s : ByteArray) (vf : Value) (r : Int) (w : World) (R : Int × List Nt) (hrun : Calls Tryz.prog 21 #[.string s, vf] w (RunPost w R)) (hfew : R.2.length ≤ 5000) (hok : ∀ x ∈ R.2, NtOk x) :
  Calls Tryz.prog 8 #[.string s, vf, .int .i64 r] w (BillPost w (billP r R)) := by
 obtain ⟨er, N⟩ := R
 simp only at hfew hok
 have HRUN : Hid (Calls Tryz.prog 21 #[.string s, vf] w (RunPost w (er, N))) := hrun
 have HOK : Hid (∀ x ∈ N, NtOk x) := hok
 clear hrun hok
 by_cases h0 : er = 0
 ·subst h0
  by_cases hr : r < 0 ∨ 15 < r
  ·have hb : billP r (0, N) = (9, []) := by unfold billP; rw [if_neg (by simp), if_pos hr]
   rw [hb]
   clear HOK
   by_cases hneg : r < 0
   ·have t1 : decide (r < 0) = true := decide_eq_true hneg
    go_enter Tryz.func8, Tryz.ntmps8
    go_wp2_with (first | (go_at_call 21; refine HRUN.out.mono ?_; rintro e w1 ⟨⟨va, rfl, ha1, ha2⟩, hb1⟩; have HB1 : Hid (Below w.heap.size w w1) := hb1; clear hb1 ha1 ha2))
    go_ret2
    exact ⟨rfl, HB1.out⟩
   ·have t1 : decide (r < 0) = false := decide_eq_false hneg
    have t2 : decide ((15 : Int) < r) = true := by rw [decide_eq_true_iff]; omega
    go_enter Tryz.func8, Tryz.ntmps8
    go_wp2_with (first | (go_at_call 21; refine HRUN.out.mono ?_; rintro e w1 ⟨⟨va, rfl, ha1, ha2⟩, hb1⟩; have HB1 : Hid (Below w.heap.size w w1) := hb1; clear hb1 ha1 ha2))
    go_ret2
    exact ⟨rfl, HB1.out⟩
  ·have hb : billP r (0, N) = (0, billB r N) := by unfold billP; rw [if_neg (by simp), if_neg hr]
   rw [hb]
   have t1 : decide (r < 0) = false := by rw [decide_eq_false_iff_not]; omega
   have t2 : decide ((15 : Int) < r) = false := by rw [decide_eq_false_iff_not]; omega
   have HR : Hid (([] : List UInt8) ++ billB r (N.drop 0) = billB r N) := rfl
   generalize hRR : billB r N = RR at HR ⊢
   clear hRR
   go_enter Tryz.func8, Tryz.ntmps8
   go_wp2_with (first | (go_at_call 21; refine HRUN.out.mono ?_; rintro e w1 ⟨⟨va, rfl, ha1, ha2⟩, hb1⟩; obtain ⟨aa, ga, ca, rfl, hna⟩ := notes_form ha2; have HNA : Hid (NoteCells w1 aa ga N) := hna; have HB1 : Hid (Below w.heap.size w w1) := hb1; clear hb1 ha1 ha2 hna))
   go_loopw [10, 11] (fun v x w' => ∃ (k : Nat) (M : List UInt8), v = .string (txt M) ∧ x = .int .i64 k ∧ k ≤ N.length ∧ M.length ≤ 50 * k ∧ Hid (Below w1.heap.size w1 w') ∧ Hid (M ++ billB r (N.drop k) = RR)) (fun _ x _ => N.length - (intOf x).toNat)
   case atStart => exact ⟨0, [], rfl, rfl, Nat.zero_le _, Nat.le_refl _, Below.refl _ _, HR⟩
   case round =>
    obtain ⟨k, M, rfl, rfl, hk, hM, HW, HF⟩ := hrel
    by_cases hlt : k < N.length
    ·have tk : decide ((k : Int) < (N.length : Int)) = true := by rw [decide_eq_true_iff]; omega
     have HNC : Hid (∀ w', Below w1.heap.size w1 w' → aa = some ⟨ga, 0, none⟩ ∧ ga < w'.heap.size ∧ w'.cell? ⟨ga, k * 5, none⟩ = some (.int .i64 N[k].kind) ∧ w'.cell? ⟨ga, k * 5 + 1, none⟩ = some (.int .i64 N[k].place) ∧ w'.cell? ⟨ga, k * 5 + 2, none⟩ = some (.int .i64 N[k].label) ∧ w'.cell? ⟨ga, k * 5 + 3, none⟩ = some (.int .i64 N[k].val.num) ∧ w'.cell? ⟨ga, k * 5 + 4, none⟩ = some (.int .i64 N[k].val.fault)) := fun w' h => HNA.out.below h k hlt
     obtain ⟨ea, hg, c0, c1, c2, c3, c4⟩ := HNC.out wr HW.out
     have hxok := HOK.out N[k] (List.getElem_mem hlt)
     have hF := HF.out
     rw [billB_drop r N k hlt] at hF
     subst ea
     generalize N[k] = x at *
     have HGO : Hid (∀ w, Calls Tryz.prog 22 #[.int .i64 (x.label : Int), .int .i64 r] w fun e w' => e = .returned (.bool (bits .or .i64 (x.label : Int) r == r)) ∧ w' = w) := fun w => goesB_any _ _ w
     have hpl := hxok.place
     have hfl := hxok.val.fault
     have HNU : Hid (∀ w, Calls Tryz.prog 23 #[.int .i64 (x.place : Int)] w fun e w' => e = .returned (.string (txt (intB (x.place : Int)))) ∧ Below w.heap.size w w') := fun w => refNum_any _ (by omega) w
     have HWO : Hid (∀ w, Calls Tryz.prog 24 #[.agg #[.int .i64 x.val.num, .int .i64 x.val.fault]] w fun e w' => e = .returned (.string (txt (worthB x.val))) ∧ Below w.heap.size w w') := fun w => refWorth_any x.val ⟨hxok.val.num, by omega⟩ w
     have HEQ : Hid (txt M ++ txt (intB (x.place : Int)) ++ ⟨#[58]⟩ ++ txt (worthB x.val) ++ ⟨#[10]⟩ = txt (M ++ noteB x)) := more_txt M x
     have hl1 : (txt (intB (x.place : Int))).size ≤ 20 := intB_len20 (x.place : Int) (by omega)
     have hl2 : (txt (worthB x.val)).size ≤ 21 := worthB_len21 hxok.val
     have hl3 : (txt M).size ≤ 250000 := by show M.length ≤ _; omega
     have hnl := noteB_len hxok
     clear HF HOK HNA hxok
     unfold shownN at hF
     cases hk0 : (x.kind == 0)
     ·rw [hk0] at hF
      have HF2 : Hid (M ++ billB r (N.drop (k + 1)) = RR) := by show _ = _; simpa using hF
      clear hF
      go_wp2_with fail
      refine ⟨⟨k + 1, M, rfl, by go_num, by omega, by omega, HW, HF2⟩, ?_⟩
      simp [intOf]
      omega
     ·rw [hk0, Bool.true_and] at hF
      generalize (bits .or .i64 (x.label : Int) r == r) = G at *
      cases G
      ·have HF2 : Hid (M ++ billB r (N.drop (k + 1)) = RR) := by show _ = _; simpa using hF
       clear hF
       go_wp2_with (first | (go_at_call 22; refine (HGO.out _).mono ?_; rintro e w2 ⟨rfl, hw2⟩; subst hw2))
       refine ⟨⟨k + 1, M, rfl, by go_num, by omega, by omega, HW, HF2⟩, ?_⟩
       simp [intOf]
       omega
      ·have HF2 : Hid ((M ++ noteB x) ++ billB r (N.drop (k + 1)) = RR) := by show _ = _; rw [← hF]; simp
       clear hF
       generalize txt (intB (x.place : Int)) = N1 at *
       generalize txt (worthB x.val) = N2 at *
       go_upto_region 11 with (first | (go_at_call 22; refine (HGO.out _).mono ?_; rintro e w2 ⟨rfl, hw2⟩; subst hw2))
       generalize hTM : txt M = TM at *
       go_region_with (first | (go_at_call 23; refine (HNU.out _).mono ?_; rintro e w3 ⟨rfl, hb3⟩; have HB3 : Hid (Below w1.heap.size w1 w3) := (by first | exact HW.out.trans (hb3.mono HW.out.size) | exact HW.out.drew.trans (hb3.mono HW.out.size)); obtain ⟨_, _, _, _, _, e3, e4⟩ := HNC.out w3 HB3.out; clear hb3) | (go_at_call 24; refine (HWO.out _).mono ?_; rintro e w4 ⟨rfl, hb4⟩; have HB4 : Hid (Below w1.heap.size w1 w4) := (by first | exact HB3.out.trans (hb4.mono HB3.out.size) | exact HB3.out.drew.trans (hb4.mono HB3.out.size)); clear hb4))
       all_goals go_wp2_with fail
       all_goals (refine ⟨⟨k + 1, M ++ noteB x, by rw [HEQ.out], by go_num, by omega, by rw [List.length_append]; omega, HB4, HF2⟩, ?_⟩; simp [intOf]; omega)
    ·have tk : decide ((k : Int) < (N.length : Int)) = false := by rw [decide_eq_false_iff_not]; omega
     have HF2 : Hid (M = RR) := by
      have := HF.out
      rw [List.drop_of_length_le (by omega)] at this
      show _ = _
      simpa [billB] using this
     clear HF HOK HNA
     go_wp2_with fail
     go_ret2
     refine ⟨?_, HB1.out.trans (HW.out.mono HB1.out.size)⟩
     rw [← HF2.out]
     rfl
 ·have hb : billP r (er, N) = (er, []) := by unfold billP; rw [if_pos (by simpa using h0)]
  rw [hb]
  have t0 : (er != 0) = true := by simpa using h0
  clear HOK
  go_enter Tryz.func8, Tryz.ntmps8
  go_wp2_with (first | (go_at_call 21; refine HRUN.out.mono ?_; rintro e w1 ⟨⟨va, rfl, ha1, ha2⟩, hb1⟩; have HB1 : Hid (Below w.heap.size w w1) := hb1; clear hb1 ha1 ha2))
  go_ret2
  exact ⟨rfl, HB1.out⟩
end Go.Proofs.YtdgmoiflahoihaaGreatDoor
namespace Go.Proofs.YtdgmoiflahoihaaGreatDoor
open Go.RowKit
set_option linter.unusedSimpArgs false
set_option linter.unusedVariables false
set_option maxRecDepth 100000 in
set_option maxHeartbeats 4000000 in
theorem bills_walk (s : ByteArray) (fs : List Int) (af : Option Addr) (gf of capf : Nat) (r : Int) (w : World) (hs : s.size ≤ maxLen) (hf : NumCells w af gf of fs) (hm : 8 * (fs.length + 2) ≤ 281474976710656) (hfo : FsOk fs) (ht : TabOk w) :
  Calls Tryz.prog 3 #[.string s, .slice af fs.length capf, .int .i64 r] w fun e w' => e = .returned (.bool true) ∧ Below w.heap.size w w' := by
 have HF : Hid (NumCells w af gf of fs) := hf
 have HT : Hid (TabOk w) := ht
 have hfew := runP_few s.data.toList fs hfo
 have hnts := runP_nts s.data.toList fs hfo
 have HP : Hid (∀ g cap (w : World), NumCells w (some ⟨g, 0, none⟩) g 0 fs → TabOk w → Calls Tryz.prog 7 #[.string s, .slice (some ⟨g, 0, none⟩) fs.length cap, .int .i64 r] w (BillPost w (billP r (runP s.data.toList fs)))) := fun g cap w h h2 => billText_any s _ r w _ (fun w' e => by subst e; exact progText_any s fs g cap _ hs h (by unfold maxLen; omega) hfo) hfew hnts h2
 have HR : Hid (∀ (w : World), NumCells w af gf of fs → Calls Tryz.prog 8 #[.string s, .slice af fs.length capf, .int .i64 r] w (BillPost w (billP r (runP s.data.toList fs)))) := fun w h => refBill_any s _ r w _ (refRun_any s fs af gf of capf w hs h (by omega) hfo) hfew hnts
 clear hfew hnts
 generalize billP r (runP s.data.toList fs) = BP at *
 obtain ⟨er, bl⟩ := BP
 have t1 : (er == er) = true := by simp
 have t2 : ((txt bl).toList == (txt bl).toList) = true := by simp
 clear hf hfo ht
 go_enter Tryz.func3, Tryz.ntmps3
 go_wp2_with (first | (go_at_call 6; refine (fieldsOf_any fs af gf of capf _ HF.out hm).mono ?_; rintro e w1 ⟨rfl, hg1, hb1⟩; have HG1 : Hid (w1.heap[w.heap.size]? = some (.cells (numRow fs ++ mark2).toArray 3 (0, 0))) := hg1; have HB1 : Hid (Below w.heap.size w w1) := hb1; have hlt1 : w.heap.size < w1.heap.size := (Array.getElem?_eq_some_iff.mp hg1).1; clear hg1 hb1) | (go_at_call 7; refine (HP.out w.heap.size _ _ (num_of_row HG1.out) (HT.out.below HB1.out)).mono ?_; rintro e w2 ⟨rfl, hb2⟩; have HB2 : Hid (Below w1.heap.size w1 w2) := hb2; clear hb2) | (go_at_call 8; refine (HR.out _ ((HF.out.below HB1.out).below HB2.out)).mono ?_; rintro e w3 ⟨rfl, hb3⟩; have HB3 : Hid (Below w2.heap.size w2 w3) := hb3; clear hb3) | (go_at_call 9; refine (stillInts_any fs w.heap.size af gf of capf _ (by rw [HB3.out.block _ (by have := HB2.out.size; omega), HB2.out.block _ hlt1]; exact HG1.out) (((HF.out.below HB1.out).below HB2.out).below HB3.out) hm).mono ?_; rintro e w4 ⟨rfl, hb4⟩; have HB4 : Hid (Below w3.heap.size w3 w4) := hb4; clear hb4))
 go_ret
 have s1 := HB1.out.size
 have s2 := HB2.out.size
 have s3 := HB3.out.size
 exact ⟨rfl, ((HB1.out.trans (HB2.out.mono (by omega))).trans (HB3.out.mono (by omega))).trans (HB4.out.mono (by omega))⟩
end Go.Proofs.YtdgmoiflahoihaaGreatDoor
