import Derived.Test.YtdgmoiflahoihabGreatDoorBDUw
import Derived.Test.YtdgmoiflahoihabGreatDoorBLIw
import Derived.Test.YtdgmoiflahoihabGreatDoorKPickw
import Derived.Test.YtdgmoiflahoihabGreatDoorLNmw

namespace Go.Proofs.YtdgmoiflahoihabGreatDoor
open Go.RowKit
set_option linter.unusedSimpArgs false
set_option linter.unusedVariables false
def LineCells (w : World) (ao : Option Addr) (g : Nat) (l : List Ln) : Prop := ∀ i, ∀ hi : i < l.length, ao = some ⟨g, 0, none⟩ ∧ g < w.heap.size ∧
 w.cell? ⟨g, i * 3, none⟩ = some (.int .i64 l[i].place) ∧ w.cell? ⟨g, i * 3 + 1, none⟩ = some (.int .i64 l[i].val.num) ∧ w.cell? ⟨g, i * 3 + 2, none⟩ = some (.int .i64 l[i].val.fault)
theorem LineCells.below {w w' : World} {ao : Option Addr} {g : Nat} {l : List Ln} (h : LineCells w ao g l) (hb : Below w.heap.size w w') : LineCells w' ao g l := by
 intro i hi
 obtain ⟨e, hg, c0, c1, c2⟩ := h i hi
 exact ⟨e, Nat.lt_of_lt_of_le hg hb.size, (hb.cell (p := ⟨g, _, none⟩) hg).trans c0, (hb.cell (p := ⟨g, _, none⟩) hg).trans c1, (hb.cell (p := ⟨g, _, none⟩) hg).trans c2⟩
theorem lnCells_at (l : List Ln) : ∀ (i : Nat) (h : i < l.length), (lnCells l)[i * 3]? = some (.int .i64 l[i].place) ∧ (lnCells l)[i * 3 + 1]? = some (.int .i64 l[i].val.num) ∧ (lnCells l)[i * 3 + 2]? = some (.int .i64 l[i].val.fault) := by
 induction l with
 | nil => intro i h; cases h
 | cons p r ih =>
  intro i h
  cases i with
  | zero => simp [lnCells, lnCell]
  | succ i =>
   have k := ih i (by simpa using h)
   rw [show (i + 1) * 3 = i * 3 + 3 by omega]
   simpa [lnCells, lnCell] using k
theorem lnCells_len (l : List Ln) : (lnCells l).length = l.length * 3 := by
 induction l with
 | nil => rfl
 | cons p r ih => simp [lnCells, lnCell] at *; omega
theorem lines_form {w : World} {base : Nat} {v : Value} {l : List Ln} (h : w.ownsRow base 39 3 v l.length (lnCells l)) : ∃ ao g cap, v = .slice ao l.length cap ∧ LineCells w ao g l := by
 rcases h.2 with ⟨rfl, h0⟩ | ⟨g, cap, cur, rfl, hb, hg, hc, hm, hcs, ht⟩
 ·exact ⟨none, 0, 0, by rw [h0], fun i hi => absurd hi (by omega)⟩
 ·have hln := lnCells_len l
  refine ⟨some ⟨g, 0, none⟩, g, cap, rfl, fun i hi => ⟨rfl, (h.lt g rfl).2, ?_, ?_, ?_⟩⟩
  ·rw [h.cellAt (i * 3) (by omega)]; exact (lnCells_at l i hi).1
  ·rw [h.cellAt (i * 3 + 1) (by omega)]; exact (lnCells_at l i hi).2.1
  ·rw [h.cellAt (i * 3 + 2) (by omega)]; exact (lnCells_at l i hi).2.2
set_option maxHeartbeats 1000000 in
theorem kNum_any (v : Vl) (hv : VlOk v) (w : World) (ht : TabOk w) :
  Calls Tryz.prog 24 #[vlV v] w fun e w' => e = .returned (.string (txt (worthB v))) ∧ Below w.heap.size w w' := by
 obtain ⟨num, fault⟩ := v
 obtain ⟨h1, h2, h3⟩ := hv
 simp only at h1 h2 h3
 have hB0 : Below w.heap.size w (w.alloc (.cells #[.int .i64 num, .int .i64 fault] 37)) := (Below.refl _ _).alloc (Nat.le_refl _) _
 have HT0 : Hid (TabOk (w.alloc (.cells #[.int .i64 num, .int .i64 fault] 37))) := ht.below hB0
 have HB0 : Hid (Below w.heap.size w (w.alloc (.cells #[.int .i64 num, .int .i64 fault] 37))) := hB0
 have HN : Hid (∀ w, TabOk w → Calls Tryz.prog 19 #[.int .i64 num] w fun e w' => e = .returned (.string (txt (intB num))) ∧ Below w.heap.size w w') := fun w h => itoa_any num h1 w h
 clear ht hB0
 have hcase : fault = 0 ∨ fault = 1 ∨ fault = 2 := by omega
 rcases hcase with rfl | rfl | rfl
 ·have hw : worthB ⟨num, 0⟩ = intB num := by unfold worthB; simp
  rw [hw]
  clear hw h2 h3
  go_enter Tryz.func24, Tryz.ntmps24
  go_wp2_with (go_at_call 19; refine (HN.out _ HT0.out).mono ?_; rintro e w1 ⟨rfl, hb1⟩; have HB : Hid (Below w.heap.size w w1) := HB0.out.trans (hb1.mono (by simp)); clear hb1)
  go_ret
  exact ⟨rfl, HB.out⟩
 ·have hw : txt (worthB ⟨num, 1⟩) = ⟨#[33, 49]⟩ := by
   have : worthB ⟨num, 1⟩ = [33, 49] := by unfold worthB; simp [intB, decB_small]
   rw [this]
   rfl
  rw [hw]
  clear hw h2 h3 HN
  go_enter Tryz.func24, Tryz.ntmps24
  go_wp2_with fail
  go_ret
  exact ⟨rfl, HB0.out⟩
 ·have hw : txt (worthB ⟨num, 2⟩) = ⟨#[33, 50]⟩ := by
   have : worthB ⟨num, 2⟩ = [33, 50] := by unfold worthB; simp [intB, decB_small]
   rw [this]
   rfl
  rw [hw]
  clear hw h2 h3 HN
  go_enter Tryz.func24, Tryz.ntmps24
  go_wp2_with fail
  go_ret
  exact ⟨rfl, HB0.out⟩
theorem ln_txt (M : List UInt8) (x : Ln) : txt M ++ txt (intB x.place) ++ ⟨#[58]⟩ ++ txt (worthB x.val) ++ ⟨#[10]⟩ = txt (M ++ (lineB x ++ [10])) := by
 rw [txt_append]
 have e1 : txt (M ++ intB x.place) ++ ⟨#[58]⟩ = txt (M ++ intB x.place ++ [58]) := txt_append _ [58]
 rw [e1, txt_append]
 have e2 : txt (M ++ intB x.place ++ [58] ++ worthB x.val) ++ ⟨#[10]⟩ = txt (M ++ intB x.place ++ [58] ++ worthB x.val ++ [10]) := txt_append _ [10]
 rw [e2]
 unfold lineB
 simp
theorem linesB_drop (l : List Ln) (k : Nat) (hk : k < l.length) : linesB (l.drop k) = (lineB l[k] ++ [10]) ++ linesB (l.drop (k + 1)) := by
 rw [List.drop_eq_getElem_cons hk]
 show lineB _ ++ 10 :: linesB _ = _
 simp
theorem lineB_len {x : Ln} (h : LnOk x) : (lineB x ++ [10]).length ≤ 50 := by
 have h1 := intB_len20 x.place (by have := h.lo; have := h.hi; omega)
 have h2 := worthB_len21 h.val
 unfold lineB
 simp only [List.length_append, List.length_cons, List.length_nil]
 omega
set_option maxRecDepth 100000 in
set_option maxHeartbeats 2000000 in
theorem kWritten_any (l : List Ln) (ao : Option Addr) (g cap : Nat) (w : World) (hl : LineCells w ao g l) (hn : l.length ≤ 1500000) (hok : ∀ x ∈ l, LnOk x) (ht : TabOk w) :
  Calls Tryz.prog 13 #[.slice ao l.length cap] w fun e w' => e = .returned (.string (txt (linesB l))) ∧ Below w.heap.size w w' := by
 have HL : Hid (LineCells w ao g l) := hl
 have HOK : Hid (∀ x ∈ l, LnOk x) := hok
 have HT : Hid (TabOk w) := ht
 clear hl hok ht
 have HR : Hid (([] : List UInt8) ++ linesB (l.drop 0) = linesB l) := rfl
 generalize hR : linesB l = R at HR ⊢
 clear hR
 go_enter Tryz.func13, Tryz.ntmps13
 go_wp2_with fail
 go_loopw [3, 4] (fun v x w' => ∃ (k : Nat) (M : List UInt8), v = .string (txt M) ∧ x = .int .i64 k ∧ k ≤ l.length ∧ M.length ≤ 50 * k ∧ Hid (Below w.heap.size w w') ∧ Hid (M ++ linesB (l.drop k) = R)) (fun _ x _ => l.length - (intOf x).toNat)
 case atStart => exact ⟨0, [], rfl, rfl, Nat.zero_le _, Nat.le_refl _, Below.refl _ _, HR⟩
 case round =>
  obtain ⟨k, M, rfl, rfl, hk, hM, HW, HF⟩ := hrel
  by_cases hlt : k < l.length
  ·have tk : decide ((k : Int) < (l.length : Int)) = true := by rw [decide_eq_true_iff]; omega
   have k1 : (k : Int) < (l.length : Int) := by omega
   have HC : Hid (∀ w', Below w.heap.size w w' → ao = some ⟨g, 0, none⟩ ∧ g < w'.heap.size ∧ w'.cell? ⟨g, k * 3, none⟩ = some (.int .i64 l[k].place) ∧ w'.cell? ⟨g, k * 3 + 1, none⟩ = some (.int .i64 l[k].val.num) ∧ w'.cell? ⟨g, k * 3 + 2, none⟩ = some (.int .i64 l[k].val.fault)) := fun w' h => HL.out.below h k hlt
   obtain ⟨ea, hg, c0, c1, c2⟩ := HC.out wr HW.out
   have hxok := HOK.out l[k] (List.getElem_mem hlt)
   have hF := HF.out
   rw [linesB_drop l k hlt] at hF
   subst ea
   generalize l[k] = x at *
   have hlo := hxok.lo
   have hhi := hxok.hi
   have HI : Hid (∀ w, TabOk w → Calls Tryz.prog 19 #[.int .i64 x.place] w fun e w' => e = .returned (.string (txt (intB x.place))) ∧ Below w.heap.size w w') := fun w h => itoa_any _ (by omega) w h
   have HW2 : Hid (∀ w, TabOk w → Calls Tryz.prog 24 #[.agg #[.int .i64 x.val.num, .int .i64 x.val.fault]] w fun e w' => e = .returned (.string (txt (worthB x.val))) ∧ Below w.heap.size w w') := fun w h => kNum_any x.val hxok.val w h
   have HE : Hid (txt M ++ txt (intB x.place) ++ ⟨#[58]⟩ ++ txt (worthB x.val) ++ ⟨#[10]⟩ = txt (M ++ (lineB x ++ [10]))) := ln_txt M x
   have hl1 : (txt (intB x.place)).size ≤ 20 := intB_len20 x.place (by omega)
   have hl2 : (txt (worthB x.val)).size ≤ 21 := worthB_len21 hxok.val
   have hl3 : (txt M).size ≤ 100000000 := by show M.length ≤ _; omega
   have hnl := lineB_len hxok
   have HF2 : Hid ((M ++ (lineB x ++ [10])) ++ linesB (l.drop (k + 1)) = R) := by show _ = _; rw [← hF]; simp
   have HTr : Hid (TabOk wr) := HT.out.below HW.out
   clear HF HOK HL hxok hF
   generalize txt (intB x.place) = N1 at *
   generalize txt (worthB x.val) = N2 at *
   generalize hTM : txt M = TM at *
   have hmm : (M ++ (lineB x ++ [10])).length ≤ 50 * (k + 1) := by rw [List.length_append]; omega
   generalize M ++ (lineB x ++ [10]) = MM at *
   clear hTM
   go_wp2_with (first | (go_at_call 19; refine (HI.out _ HTr.out).mono ?_; rintro e w1 ⟨rfl, hb1⟩; have HB1 : Hid (Below w.heap.size w w1) := HW.out.trans (hb1.mono HW.out.size); obtain ⟨_, hg1, d0, d1, d2⟩ := HC.out w1 HB1.out; have HT1 : Hid (TabOk w1) := HTr.out.below hb1; clear hb1) | (go_at_call 24; refine (HW2.out _ HT1.out).mono ?_; rintro e w2 ⟨rfl, hb2⟩; have HB2 : Hid (Below w.heap.size w w2) := HB1.out.trans (hb2.mono HB1.out.size); clear hb2))
   refine ⟨⟨k + 1, MM, by rw [HE.out], by go_num, by omega, hmm, HB2, HF2⟩, ?_⟩
   simp [intOf]
   omega
  ·have tk : decide ((k : Int) < (l.length : Int)) = false := by rw [decide_eq_false_iff_not]; omega
   have HF2 : Hid (M = R) := by
    have := HF.out
    rw [List.drop_of_length_le (by omega)] at this
    show _ = _
    simpa [linesB] using this
   clear HF HOK HL
   go_wp2_with fail
   go_ret
   refine ⟨?_, HW.out⟩
   rw [← HF2.out]
   rfl
end Go.Proofs.YtdgmoiflahoihabGreatDoor
