import Derived.Test.YtdgmoiflahoihaaEVA

namespace Go.Proofs.Ytdgmoiflahoihaa
open Go.RowKit
set_option linter.unusedSimpArgs false
set_option linter.unusedVariables false
set_option maxHeartbeats 400000 in
theorem isBelow_any (a n : Int) (w : World) :
  Calls Try.prog 92 #[.int .i64 a, .int .i64 n] w fun e w' => e = .returned (.bool (bel a n)) ∧ w' = w := by
 go_enter Try.func92, Try.ntmps92
 go_wp2
 all_goals go_ret
 all_goals (refine ⟨?_, rfl⟩; simp [bel, *]; try omega)
set_option maxHeartbeats 400000 in
theorem isReg_any (a : Int) (w : World) :
  Calls Try.prog 91 #[.int .i64 a] w fun e w' => e = .returned (.bool (bel a 100)) ∧ w' = w := by
 go_enter Try.func91, Try.ntmps91
 go_wp2_with (go_at_call 92; refine (isBelow_any a 100 _).mono ?_; rintro e w1 ⟨rfl, rfl⟩)
 go_ret
 exact ⟨rfl, rfl⟩
set_option maxHeartbeats 400000 in
theorem endsCode_any (x : Ic) (w : World) :
  Calls Try.prog 63 #[icV x] w fun e w' => e = .returned (.bool (endsI x)) ∧ w' = w.alloc (.cells (icCells x) 70) := by
 go_enter Try.func63, Try.ntmps63
 go_wp2
 all_goals go_ret
 all_goals (refine ⟨?_, rfl⟩; simp [endsI, *])
end Go.Proofs.Ytdgmoiflahoihaa
namespace Go.Proofs.Ytdgmoiflahoihaa
open Go.RowKit
set_option linter.unusedSimpArgs false
set_option linter.unusedVariables false
set_option maxHeartbeats 1000000 in
theorem fits_0 (a b c n : Int) (w : World) (x : Ic) (hx : x = ⟨0, a, b, c⟩) : Calls Try.prog 62 #[icV x, .int .i64 n] w fun e w' => e = .returned (.bool (fitsI x n)) ∧ w' = w.alloc (.cells (icCells x) 70) := by
 subst hx
 go_enter Try.func62, Try.ntmps62
 go_wp2_with (first | (go_at_call 92; refine (isBelow_any _ _ _).mono ?_; rintro e w1 ⟨rfl, rfl⟩) | (go_at_call 91; refine (isReg_any _ _).mono ?_; rintro e w1 ⟨rfl, rfl⟩))
 all_goals go_ret
 all_goals (first | exact ⟨by simp [fitsI, *], rfl⟩ | exact ⟨by simp [fitsI, *], by simp [*]⟩)
set_option maxHeartbeats 1000000 in
theorem fits_1 (a b c n : Int) (w : World) (x : Ic) (hx : x = ⟨1, a, b, c⟩) : Calls Try.prog 62 #[icV x, .int .i64 n] w fun e w' => e = .returned (.bool (fitsI x n)) ∧ w' = w.alloc (.cells (icCells x) 70) := by
 subst hx
 go_enter Try.func62, Try.ntmps62
 go_wp2_with (first | (go_at_call 92; refine (isBelow_any _ _ _).mono ?_; rintro e w1 ⟨rfl, rfl⟩) | (go_at_call 91; refine (isReg_any _ _).mono ?_; rintro e w1 ⟨rfl, rfl⟩))
 all_goals go_ret
 all_goals (first | exact ⟨by simp [fitsI, *], rfl⟩ | exact ⟨by simp [fitsI, *], by simp [*]⟩)
set_option maxHeartbeats 1000000 in
theorem fits_2 (a b c n : Int) (w : World) (x : Ic) (hx : x = ⟨2, a, b, c⟩) : Calls Try.prog 62 #[icV x, .int .i64 n] w fun e w' => e = .returned (.bool (fitsI x n)) ∧ w' = w.alloc (.cells (icCells x) 70) := by
 subst hx
 go_enter Try.func62, Try.ntmps62
 go_wp2_with (first | (go_at_call 92; refine (isBelow_any _ _ _).mono ?_; rintro e w1 ⟨rfl, rfl⟩) | (go_at_call 91; refine (isReg_any _ _).mono ?_; rintro e w1 ⟨rfl, rfl⟩))
 all_goals go_ret
 all_goals (first | exact ⟨by simp [fitsI, *], rfl⟩ | exact ⟨by simp [fitsI, *], by simp [*]⟩)
set_option maxHeartbeats 1000000 in
theorem fits_3 (a b c n : Int) (w : World) (x : Ic) (hx : x = ⟨3, a, b, c⟩) : Calls Try.prog 62 #[icV x, .int .i64 n] w fun e w' => e = .returned (.bool (fitsI x n)) ∧ w' = w.alloc (.cells (icCells x) 70) := by
 subst hx
 go_enter Try.func62, Try.ntmps62
 go_wp2_with (first | (go_at_call 92; refine (isBelow_any _ _ _).mono ?_; rintro e w1 ⟨rfl, rfl⟩) | (go_at_call 91; refine (isReg_any _ _).mono ?_; rintro e w1 ⟨rfl, rfl⟩))
 all_goals go_ret
 all_goals (first | exact ⟨by simp [fitsI, *], rfl⟩ | exact ⟨by simp [fitsI, *], by simp [*]⟩)
set_option maxHeartbeats 1000000 in
theorem fits_11 (a b c n : Int) (w : World) (x : Ic) (hx : x = ⟨11, a, b, c⟩) : Calls Try.prog 62 #[icV x, .int .i64 n] w fun e w' => e = .returned (.bool (fitsI x n)) ∧ w' = w.alloc (.cells (icCells x) 70) := by
 subst hx
 go_enter Try.func62, Try.ntmps62
 go_wp2_with (first | (go_at_call 92; refine (isBelow_any _ _ _).mono ?_; rintro e w1 ⟨rfl, rfl⟩) | (go_at_call 91; refine (isReg_any _ _).mono ?_; rintro e w1 ⟨rfl, rfl⟩))
 all_goals go_ret
 all_goals (first | exact ⟨by simp [fitsI, *], rfl⟩ | exact ⟨by simp [fitsI, *], by simp [*]⟩)
set_option maxHeartbeats 1000000 in
theorem fits_12 (a b c n : Int) (w : World) (x : Ic) (hx : x = ⟨12, a, b, c⟩) : Calls Try.prog 62 #[icV x, .int .i64 n] w fun e w' => e = .returned (.bool (fitsI x n)) ∧ w' = w.alloc (.cells (icCells x) 70) := by
 subst hx
 go_enter Try.func62, Try.ntmps62
 go_wp2_with (first | (go_at_call 92; refine (isBelow_any _ _ _).mono ?_; rintro e w1 ⟨rfl, rfl⟩) | (go_at_call 91; refine (isReg_any _ _).mono ?_; rintro e w1 ⟨rfl, rfl⟩))
 all_goals go_ret
 all_goals (first | exact ⟨by simp [fitsI, *], rfl⟩ | exact ⟨by simp [fitsI, *], by simp [*]⟩)
set_option maxHeartbeats 1000000 in
theorem fits_13 (a b c n : Int) (w : World) (x : Ic) (hx : x = ⟨13, a, b, c⟩) : Calls Try.prog 62 #[icV x, .int .i64 n] w fun e w' => e = .returned (.bool (fitsI x n)) ∧ w' = w.alloc (.cells (icCells x) 70) := by
 subst hx
 go_enter Try.func62, Try.ntmps62
 go_wp2_with (first | (go_at_call 92; refine (isBelow_any _ _ _).mono ?_; rintro e w1 ⟨rfl, rfl⟩) | (go_at_call 91; refine (isReg_any _ _).mono ?_; rintro e w1 ⟨rfl, rfl⟩))
 all_goals go_ret
 all_goals (first | exact ⟨by simp [fitsI, *], rfl⟩ | exact ⟨by simp [fitsI, *], by simp [*]⟩)
set_option maxHeartbeats 1000000 in
theorem fits_14 (a b c n : Int) (w : World) (x : Ic) (hx : x = ⟨14, a, b, c⟩) : Calls Try.prog 62 #[icV x, .int .i64 n] w fun e w' => e = .returned (.bool (fitsI x n)) ∧ w' = w.alloc (.cells (icCells x) 70) := by
 subst hx
 go_enter Try.func62, Try.ntmps62
 go_wp2_with (first | (go_at_call 92; refine (isBelow_any _ _ _).mono ?_; rintro e w1 ⟨rfl, rfl⟩) | (go_at_call 91; refine (isReg_any _ _).mono ?_; rintro e w1 ⟨rfl, rfl⟩))
 all_goals go_ret
 all_goals (first | exact ⟨by simp [fitsI, *], rfl⟩ | exact ⟨by simp [fitsI, *], by simp [*]⟩)
set_option maxHeartbeats 1000000 in
theorem fits_15 (a b c n : Int) (w : World) (x : Ic) (hx : x = ⟨15, a, b, c⟩) : Calls Try.prog 62 #[icV x, .int .i64 n] w fun e w' => e = .returned (.bool (fitsI x n)) ∧ w' = w.alloc (.cells (icCells x) 70) := by
 subst hx
 go_enter Try.func62, Try.ntmps62
 go_wp2_with (first | (go_at_call 92; refine (isBelow_any _ _ _).mono ?_; rintro e w1 ⟨rfl, rfl⟩) | (go_at_call 91; refine (isReg_any _ _).mono ?_; rintro e w1 ⟨rfl, rfl⟩))
 all_goals go_ret
 all_goals (first | exact ⟨by simp [fitsI, *], rfl⟩ | exact ⟨by simp [fitsI, *], by simp [*]⟩)
set_option maxHeartbeats 2000000 in
theorem fits_op (o a b c n : Int) (w : World) (x : Ic) (hx : x = ⟨o, a, b, c⟩) (ho : o = 4 ∨ o = 5 ∨ o = 6 ∨ o = 7 ∨ o = 8 ∨ o = 9 ∨ o = 10) : Calls Try.prog 62 #[icV x, .int .i64 n] w fun e w' => e = .returned (.bool (fitsI x n)) ∧ w' = w.alloc (.cells (icCells x) 70) := by
 subst hx
 rcases ho with rfl | rfl | rfl | rfl | rfl | rfl | rfl
 all_goals (
  go_enter Try.func62, Try.ntmps62
  go_wp2_with (first | (go_at_call 92; refine (isBelow_any _ _ _).mono ?_; rintro e w1 ⟨rfl, rfl⟩) | (go_at_call 91; refine (isReg_any _ _).mono ?_; rintro e w1 ⟨rfl, rfl⟩))
  all_goals go_ret
  all_goals (refine ⟨?_, rfl⟩; simp [fitsI, *]))
set_option maxHeartbeats 1000000 in
theorem fits_no (o a b c n : Int) (w : World) (x : Ic) (hx : x = ⟨o, a, b, c⟩) (ho : o < 0 ∨ 15 < o) : Calls Try.prog 62 #[icV x, .int .i64 n] w fun e w' => e = .returned (.bool (fitsI x n)) ∧ w' = w.alloc (.cells (icCells x) 70) := by
 subst hx
 have e0 : (o == 0) = false := by simp; omega
 have e1 : (o == 1) = false := by simp; omega
 have e2 : (o == 2) = false := by simp; omega
 have e3 : (o == 3) = false := by simp; omega
 have e4 : (o == 4) = false := by simp; omega
 have e5 : (o == 5) = false := by simp; omega
 have e6 : (o == 6) = false := by simp; omega
 have e7 : (o == 7) = false := by simp; omega
 have e8 : (o == 8) = false := by simp; omega
 have e9 : (o == 9) = false := by simp; omega
 have e10 : (o == 10) = false := by simp; omega
 have e11 : (o == 11) = false := by simp; omega
 have e12 : (o == 12) = false := by simp; omega
 have e13 : (o == 13) = false := by simp; omega
 have e14 : (o == 14) = false := by simp; omega
 have e15 : (o == 15) = false := by simp; omega
 go_enter Try.func62, Try.ntmps62
 go_wp2_with (first | (go_at_call 92; refine (isBelow_any _ _ _).mono ?_; rintro e w1 ⟨rfl, rfl⟩) | (go_at_call 91; refine (isReg_any _ _).mono ?_; rintro e w1 ⟨rfl, rfl⟩))
 all_goals go_ret
 refine ⟨?_, rfl⟩
 have h1 : ¬ (4 ≤ o ∧ o ≤ 10) := by omega
 simp only [beq_eq_false_iff_ne, ne_eq] at *
 simp [fitsI, *]
theorem fits_any (x : Ic) (n : Int) (w : World) : Calls Try.prog 62 #[icV x, .int .i64 n] w fun e w' => e = .returned (.bool (fitsI x n)) ∧ w' = w.alloc (.cells (icCells x) 70) := by
 obtain ⟨o, a, b, c⟩ := x
 by_cases h : o < 0 ∨ 15 < o
 ·exact fits_no o a b c n w _ rfl h
 by_cases h4 : 4 ≤ o ∧ o ≤ 10
 ·exact fits_op o a b c n w _ rfl (by omega)
 rcases (show o = 0 ∨ o = 1 ∨ o = 2 ∨ o = 3 ∨ o = 11 ∨ o = 12 ∨ o = 13 ∨ o = 14 ∨ o = 15 by omega) with rfl | rfl | rfl | rfl | rfl | rfl | rfl | rfl | rfl
 ·exact fits_0 a b c n w _ rfl
 ·exact fits_1 a b c n w _ rfl
 ·exact fits_2 a b c n w _ rfl
 ·exact fits_3 a b c n w _ rfl
 ·exact fits_11 a b c n w _ rfl
 ·exact fits_12 a b c n w _ rfl
 ·exact fits_13 a b c n w _ rfl
 ·exact fits_14 a b c n w _ rfl
 ·exact fits_15 a b c n w _ rfl
end Go.Proofs.Ytdgmoiflahoihaa
namespace Go.Proofs.Ytdgmoiflahoihaa
open Go.RowKit
set_option linter.unusedSimpArgs false
set_option linter.unusedVariables false
structure ResZ (w : World) (g : Nat) : Prop where
 c0 : w.cell? ⟨g, 0, none⟩ = some (.int .i64 0)
 c1 : w.cell? ⟨g, 1, none⟩ = some (.int .i64 0)
 fz : ∀ o, w.frozen? ⟨g, o, none⟩ = false
theorem ResZ.below {w w' : World} {g B : Nat} (h : ResZ w g) (hb : Below B w w') (hg : g < B) : ResZ w' g :=
 ⟨(World.cell?_of_block (w := w) (a := ⟨g, 0, none⟩) (hb.block g hg)).trans h.c0, (World.cell?_of_block (w := w) (a := ⟨g, 1, none⟩) (hb.block g hg)).trans h.c1, fun o => (World.frozen?_of_block (w := w) (a := ⟨g, o, none⟩) (hb.block g hg)).trans (h.fz o)⟩
@[reducible] def verV (r : Int × Int) : Value := .agg #[.int .i64 r.1, .int .i64 r.2]
set_option maxHeartbeats 1000000 in
theorem judge_long (l : List Ic) (ao : Option Addr) (cap : Nat) (w : World) (h : 2000 < l.length) :
  Calls Try.prog 32 #[.slice ao l.length cap] w fun e w' => e = .returned (verV (validI l)) ∧ Below w.heap.size w w' := by
 have hv : validI l = (4, 0) := by unfold validI; rw [if_pos h]
 have t1 : decide ((2000 : Int) < (l.length : Int)) = true := by simp; omega
 rw [hv]
 go_enter Try.func32, Try.ntmps32
 go_wp2_with fail
 refine bodyPost_ret (v := verV (4, 0)) (by simp [results, Try.results32, go_sem]) rfl ⟨rfl, ?_⟩
 exact (Below.refl _ _).alloc (Nat.le_refl _) _
set_option maxHeartbeats 1000000 in
theorem judge_none (l : List Ic) (ao : Option Addr) (cap : Nat) (w : World) (h : l.length = 0) :
  Calls Try.prog 32 #[.slice ao l.length cap] w fun e w' => e = .returned (verV (validI l)) ∧ Below w.heap.size w w' := by
 have hv : validI l = (7, 0) := by unfold validI; rw [if_neg (by omega), if_pos h]
 rw [hv, h]
 go_enter Try.func32, Try.ntmps32
 go_wp2_with fail
 refine bodyPost_ret (v := verV (7, 0)) (by simp [results, Try.results32, go_sem]) rfl ⟨rfl, ?_⟩
 exact (Below.refl _ _).alloc (Nat.le_refl _) _
set_option maxRecDepth 100000 in
set_option maxHeartbeats 2000000 in
theorem judge_some (l : List Ic) (g o : Nat) (cap : Nat) (w : World) (m : Nat) (hm : l.length = m + 1) (hl : m < 2000) (hc : InsCells w (some ⟨g, o, none⟩) g o l) :
  Calls Try.prog 32 #[.slice (some ⟨g, o, none⟩) (m + 1) cap] w fun e w' => e = .returned (verV (validI l)) ∧ Below w.heap.size w w' := by
 have hv : validI l = vloop l.length (l.drop 0) 0 := by unfold validI; rw [if_neg (by omega), if_neg (by omega)]; rfl
 have t1 : decide ((2000 : Int) < (m : Int) + 1) = false := by simp; omega
 have t2 : ((m : Int) + 1 == 0) = false := by rw [beq_eq_false_iff_ne]; omega
 generalize hy : validI l = y at *
 have HY : Hid (vloop l.length (l.drop 0) 0 = y) := hv.symm
 have HC : Hid (InsCells w (some ⟨g, o, none⟩) g o l) := hc
 clear hy hv hc
 have hB0 : Below w.heap.size w (w.alloc (.cells #[.int .i64 0, .int .i64 0] 72)) := (Below.refl _ _).alloc (Nat.le_refl _) _
 have hR0 : ResZ (w.alloc (.cells #[.int .i64 0, .int .i64 0] 72)) w.heap.size := by
  refine ⟨?_, ?_, fun o => ?_⟩ <;> simp [go_sem]
 have hs0 : w.heap.size < (w.alloc (.cells #[.int .i64 0, .int .i64 0] 72)).heap.size := by simp
 go_enter Try.func32, Try.ntmps32
 go_upto_region 1 with fail
 generalize (w.alloc (.cells #[.int .i64 0, .int .i64 0] 72)) = W at *
 go_wp2_with fail
 go_loopw [16] (fun x w' => ∃ k : Nat, x = .int .i64 k ∧ k ≤ m + 1 ∧ Hid (Below w.heap.size w w') ∧ Hid (ResZ w' w.heap.size) ∧ w.heap.size < w'.heap.size ∧ Hid (vloop l.length (l.drop (min k m)) (min k m) = y) ∧ Hid (k = m + 1 → fitsI (l[m]'(by omega)) l.length = true)) (fun x _ => m + 1 - (intOf x).toNat)
 case atStart => exact ⟨0, rfl, by omega, hB0, hR0, hs0, by show _ = _; rw [Nat.zero_min]; exact HY.out, fun hk => absurd hk (by omega)⟩
 case round =>
  obtain ⟨k, rfl, hk, HB, HR, hsz, HV, HF⟩ := hrel
  clear hB0 hR0 hs0
  by_cases hlt : k < m + 1
  ·have tk : decide ((k : Int) < (m : Int) + 1) = true := by simp; omega
   have hkl : k < l.length := by omega
   obtain ⟨_, hg, c0, c1, c2, c3⟩ := HC.out k hkl
   rw [← HB.out.cell (p := ⟨g, o + k * 4, none⟩) hg] at c0
   rw [← HB.out.cell (p := ⟨g, o + k * 4 + 1, none⟩) hg] at c1
   rw [← HB.out.cell (p := ⟨g, o + k * 4 + 2, none⟩) hg] at c2
   rw [← HB.out.cell (p := ⟨g, o + k * 4 + 3, none⟩) hg] at c3
   have hmk : min k m = k := by omega
   have HV2 : Hid (vloop l.length (l.drop k) k = y) := by have := HV.out; rw [hmk] at this; exact this
   clear hmk HV HF
   have hln : (l.length : Int) = (m : Int) + 1 := by omega
   cases hfit : fitsI l[k] l.length with
   | false =>
    have HE : Hid ((7, (k : Int)) = y) := (vloop_bad hkl hfit).symm.trans HV2.out
    generalize l[k] = p at *
    rw [hln] at hfit
    go_wp2_with (go_at_call 62; refine (fits_any p _ _).mono ?_; rw [hfit]; rintro e w1 ⟨rfl, hw1⟩; have HB2 : Hid (Below (w.heap.size + 1) wr w1) := (by rw [hw1]; exact ((Below.refl _ _).alloc (by omega) _).alloc (by simp; omega) _); have hs1 : wr.heap.size ≤ w1.heap.size := HB2.out.size; obtain ⟨s0, s1, sf⟩ := HR.out.below HB2.out (by omega); clear hw1)
    rw [← HE.out]
    refine bodyPost_ret (v := verV (7, (k : Int))) (by simp [results, Try.results32, go_sem, s0, s1, sf]) rfl ⟨rfl, ?_⟩
    exact ((HB.out.trans (HB2.out.mono (by omega))).setCell (by simp only; omega) _).setCell (by simp only; omega) _
   | true =>
    have HV3 : Hid (vloop l.length (l.drop (min (k + 1) m)) (min (k + 1) m) = y) := by
     show _ = _
     by_cases h1 : k + 1 < l.length
     ·rw [show min (k + 1) m = k + 1 by omega, ← vloop_step hkl hfit (.inl h1)]; exact HV2.out
     ·rw [show min (k + 1) m = k by omega]; exact HV2.out
    have HF3 : Hid (k + 1 = m + 1 → fitsI (l[m]'(by omega)) l.length = true) := by
     intro hk1
     have e : l[m]'(by omega) = l[k] := by congr 1; omega
     rw [e]; exact hfit
    generalize l[k] = p at *
    rw [hln] at hfit
    go_wp2_with (go_at_call 62; refine (fits_any p _ _).mono ?_; rw [hfit]; rintro e w1 ⟨rfl, hw1⟩; have HB2 : Hid (Below (w.heap.size + 1) wr w1) := (by rw [hw1]; exact ((Below.refl _ _).alloc (by omega) _).alloc (by simp; omega) _); have hs1 : wr.heap.size ≤ w1.heap.size := HB2.out.size; obtain ⟨s0, s1, sf⟩ := HR.out.below HB2.out (by omega); clear hw1)
    go_roundw
    case rel => exact ⟨k + 1, by go_num, by omega, HB.out.trans (HB2.out.mono (by omega)), ⟨s0, s1, sf⟩, by omega, HV3, HF3⟩
    case measure => simp [intOf]; omega
  ·have tk : decide ((k : Int) < (m : Int) + 1) = false := by simp; omega
   have hkl : k = m + 1 := by omega
   have HV2 : Hid (vloop l.length (l.drop m) m = y) := by have := HV.out; rw [show min k m = m by omega] at this; exact this
   have hlm : m < l.length := by omega
   have hfit : fitsI l[m] l.length = true := HF.out hkl
   obtain ⟨_, hg, c0, c1, c2, c3⟩ := HC.out m hlm
   rw [← HB.out.cell (p := ⟨g, o + m * 4, none⟩) hg] at c0
   rw [← HB.out.cell (p := ⟨g, o + m * 4 + 1, none⟩) hg] at c1
   rw [← HB.out.cell (p := ⟨g, o + m * 4 + 2, none⟩) hg] at c2
   rw [← HB.out.cell (p := ⟨g, o + m * 4 + 3, none⟩) hg] at c3
   clear HV HF hkl hk
   cases hend : endsI l[m] with
   | false =>
    have HE : Hid ((7, (m : Int)) = y) := (vloop_end (by omega) hend).symm.trans HV2.out
    generalize l[m] = p at *
    clear hfit
    go_wp2_with (go_at_call 63; refine (endsCode_any p _).mono ?_; rw [hend]; rintro e w1 ⟨rfl, hw1⟩; have HB2 : Hid (Below (w.heap.size + 1) wr w1) := (by rw [hw1]; exact (Below.refl _ _).alloc (by omega) _); obtain ⟨s0, s1, sf⟩ := HR.out.below HB2.out (by omega); clear hw1)
    rw [← HE.out]
    refine bodyPost_ret (v := verV (7, (m : Int))) (by simp [results, Try.results32, go_sem, s0, s1, sf]) rfl ⟨rfl, ?_⟩
    exact ((HB.out.trans (HB2.out.mono (by omega))).setCell (by simp only; omega) _).setCell (by simp only; omega) _
   | true =>
    have HE : Hid ((0, 0) = y) := by
     have := HV2.out
     rw [vloop_step hlm hfit (.inr hend), List.drop_eq_nil_of_le (by omega)] at this
     exact this
    generalize l[m] = p at *
    clear hfit
    go_wp2_with (go_at_call 63; refine (endsCode_any p _).mono ?_; rw [hend]; rintro e w1 ⟨rfl, hw1⟩; have HB2 : Hid (Below (w.heap.size + 1) wr w1) := (by rw [hw1]; exact (Below.refl _ _).alloc (by omega) _); obtain ⟨s0, s1, sf⟩ := HR.out.below HB2.out (by omega); clear hw1)
    rw [← HE.out]
    refine bodyPost_ret (v := verV (0, 0)) (by simp [results, Try.results32, go_sem, s0, s1, sf]) rfl ⟨rfl, ?_⟩
    exact ((HB.out.trans (HB2.out.mono (by omega))).setCell (by simp only; omega) _).setCell (by simp only; omega) _
theorem judge_any (l : List Ic) (ao : Option Addr) (g o cap : Nat) (w : World) (hc : InsCells w ao g o l) :
  Calls Try.prog 32 #[.slice ao l.length cap] w fun e w' => e = .returned (verV (validI l)) ∧ Below w.heap.size w w' := by
 by_cases h : 2000 < l.length
 ·exact judge_long l ao cap w h
 by_cases h0 : l.length = 0
 ·exact judge_none l ao cap w h0
 ·obtain ⟨rfl, _⟩ := hc 0 (by omega)
  have := judge_some l g o cap w (l.length - 1) (by omega) (by omega) hc
  rwa [show l.length - 1 + 1 = l.length by omega] at this
end Go.Proofs.Ytdgmoiflahoihaa
