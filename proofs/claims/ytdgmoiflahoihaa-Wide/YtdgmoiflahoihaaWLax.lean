import Derived.Test.YtdgmoiflahoihaaWLawx

namespace Go.Proofs.Ytdgmoiflahoihaa
open Go.ChangeShapes Go.WideShapes Go.ChangeAt Go.RowKit
set_option linter.unusedSimpArgs false
set_option linter.unusedVariables false
set_option maxRecDepth 100000 in
set_option maxHeartbeats 4000000 in
theorem wide_zero_lt (x y : Int) (hx : In64 x) (hy : In64 y) (hlt : x < y) (y0 : y = 0) (w : World) :
  Calls Try.prog 8 #[.int .i64 x, .int .i64 y] w fun e w' => e = .returned (.bool true) ∧ Below w.heap.size w w' := by
 have tl : decide (x < y) = true := by simpa using hlt
 have te : (x == y) = false := by simp; omega
 have ty : (y == 0) = true := by simpa using y0
 have Y0 : Hid (y = 0) := y0
 clear y0
 obtain ⟨hx1, hx2⟩ := hx
 obtain ⟨hy1, hy2⟩ := hy
 have hx : In64 x := ⟨hx1, hx2⟩
 have hy : In64 y := ⟨hy1, hy2⟩
 have h0 : In64 0 := ⟨by decide, by decide⟩
 go_enter Try.func8, Try.ntmps8
 go_upto_region 2 with (first | (go_at_call 19; refine (sum_add x y hx hy _).mono ?_; rintro e wq ⟨rfl, hwq⟩; rw [hwq]; clear hwq))
 go_upto_region 3 with (first | (go_at_call 20; refine (single_any _ x y _ _ hx hy (by decide) (run_add x y)).mono ?_; rintro e w1 ⟨rfl, hb1⟩; have HS0 : Hid (Below w.heap.size w w1) := hb1; clear hb1))
 have hSt := Stand.new HS0.out (vlOf (x + y)) 45
 generalize hW1 : w1.alloc (.cells #[.int .i64 (vlOf (x + y)).num, .int .i64 (vlOf (x + y)).fault] 45) = W1 at *
 generalize hg7 : w1.heap.size = g7 at *
 obtain ⟨c0, c1, fz⟩ := hSt.var
 have HS : Hid (Stand w W1 g7 (vlOf (x + y))) := hSt
 clear hW1 hg7 hSt HS0
 go_upto_region 4 with (first | (go_at_call 21; refine (exact_any (x + y) _ (by first | exact (fun h => if_pos h) | (intro h; rfl) | (intro h; simp [h])) _).mono ?_; rintro e wm ⟨rfl, hbm⟩; have hSm := HS.out.step hbm; clear hbm c0 c1 fz HS; have HS : Hid (Stand w wm g7 _) := hSm; clear hSm))
 go_upto_region 5 with (first | (go_at_call 19; refine (sum_sub x y hx hy _).mono ?_; rintro e wq ⟨rfl, hwq⟩; rw [hwq]; clear hwq))
 go_upto_region 6 with (first | (go_at_call 20; refine (single_any _ x y _ _ hx hy (by decide) (run_sub x y)).mono ?_; rintro e wn ⟨rfl, hbn⟩; have hSn := HS.out.step hbn; obtain ⟨c0, c1, fz⟩ := hSn.var; have HS2 : Hid (Stand w wn g7 _) := hSn; clear hSn hbn))
 have hSt : Stand w ((wn.setCell ⟨g7, 0, none⟩ (.int .i64 (vlOf (x - y)).num)).setCell ⟨g7, 1, none⟩ (.int .i64 (vlOf (x - y)).fault)) g7 (vlOf (x - y)) := HS2.out.set _
 clear c0 c1 fz HS
 generalize hWn : (wn.setCell ⟨g7, 0, none⟩ (.int .i64 (vlOf (x - y)).num)).setCell ⟨g7, 1, none⟩ (.int .i64 (vlOf (x - y)).fault) = W2 at *
 obtain ⟨c0, c1, fz⟩ := hSt.var
 have HS : Hid (Stand w W2 g7 (vlOf (x - y))) := hSt
 clear hWn hSt HS2
 go_upto_region 7 with (first | (go_at_call 21; refine (exact_any (x - y) _ (by first | exact (fun h => if_pos h) | (intro h; rfl) | (intro h; simp [h])) _).mono ?_; rintro e wm ⟨rfl, hbm⟩; have hSm := HS.out.step hbm; clear hbm c0 c1 fz HS; have HS : Hid (Stand w wm g7 _) := hSm; clear hSm))
 go_upto_region 8 with (first | (go_at_call 22; refine (lawProduct_any x y hx hy _).mono ?_; rintro e wq ⟨pv, hpv, rfl, hpe, hwq⟩; rw [hwq]; clear hwq; have HPE : Hid (fits (x * y) = true → pv = x * y) := hpe; clear hpe))
 go_upto_region 9 with (first | (go_at_call 20; refine (single_any _ x y _ _ hx hy (by decide) (run_mul x y)).mono ?_; rintro e wn ⟨rfl, hbn⟩; have hSn := HS.out.step hbn; obtain ⟨c0, c1, fz⟩ := hSn.var; have HS2 : Hid (Stand w wn g7 _) := hSn; clear hSn hbn))
 have hSt : Stand w ((wn.setCell ⟨g7, 0, none⟩ (.int .i64 (vlOf (x * y)).num)).setCell ⟨g7, 1, none⟩ (.int .i64 (vlOf (x * y)).fault)) g7 (vlOf (x * y)) := HS2.out.set _
 clear c0 c1 fz HS
 generalize hWn : (wn.setCell ⟨g7, 0, none⟩ (.int .i64 (vlOf (x * y)).num)).setCell ⟨g7, 1, none⟩ (.int .i64 (vlOf (x * y)).fault) = W3 at *
 obtain ⟨c0, c1, fz⟩ := hSt.var
 have HS : Hid (Stand w W3 g7 (vlOf (x * y))) := hSt
 clear hWn hSt HS2
 go_upto_region 10 with (first | (go_at_call 21; refine (exact_any (x * y) _ HPE.out _).mono ?_; rintro e wm ⟨rfl, hbm⟩; have hSm := HS.out.step hbm; clear hbm c0 c1 fz HS; have HS : Hid (Stand w wm g7 _) := hSm; clear hSm))
 go_upto_region 11 with (first | (go_at_call 19; refine (sum_sub 0 x h0 hx _).mono ?_; rintro e wq ⟨rfl, hwq⟩; rw [hwq]; clear hwq))
 go_upto_region 12 with (first | (go_at_call 20; refine (single_any _ x y _ _ hx hy (by decide) (run_minus x y)).mono ?_; rintro e wn ⟨rfl, hbn⟩; have hSn := HS.out.step hbn; obtain ⟨c0, c1, fz⟩ := hSn.var; have HS2 : Hid (Stand w wn g7 _) := hSn; clear hSn hbn))
 have hSt : Stand w ((wn.setCell ⟨g7, 0, none⟩ (.int .i64 (vlOf (-x)).num)).setCell ⟨g7, 1, none⟩ (.int .i64 (vlOf (-x)).fault)) g7 (vlOf (-x)) := HS2.out.set _
 clear c0 c1 fz HS
 generalize hWn : (wn.setCell ⟨g7, 0, none⟩ (.int .i64 (vlOf (-x)).num)).setCell ⟨g7, 1, none⟩ (.int .i64 (vlOf (-x)).fault) = W4 at *
 obtain ⟨c0, c1, fz⟩ := hSt.var
 have HS : Hid (Stand w W4 g7 (vlOf (-x))) := hSt
 clear hWn hSt HS2
 go_upto_region 13 with (first | (go_at_call 21; refine (exact_any (-x) _ (by first | exact (fun h => if_pos h) | (intro h; rfl) | (intro h; simp [h])) _).mono ?_; rintro e wm ⟨rfl, hbm⟩; have hSm := HS.out.step hbm; clear hbm c0 c1 fz HS; have HS : Hid (Stand w wm g7 _) := hSm; clear hSm))
 go_upto_region 14 with (first | (go_at_call 20; refine (single_any _ x y _ _ hx hy (by decide) (run_less1 x y hlt)).mono ?_; rintro e wn ⟨rfl, hbn⟩; have hSn := HS.out.step hbn; obtain ⟨c0, c1, fz⟩ := hSn.var; have HS2 : Hid (Stand w wn g7 _) := hSn; clear hSn hbn))
 have hSt : Stand w ((wn.setCell ⟨g7, 0, none⟩ (.int .i64 (Vl.mk 1 0).num)).setCell ⟨g7, 1, none⟩ (.int .i64 (Vl.mk 1 0).fault)) g7 (Vl.mk 1 0) := HS2.out.set _
 clear c0 c1 fz HS
 generalize hWn : (wn.setCell ⟨g7, 0, none⟩ (.int .i64 (Vl.mk 1 0).num)).setCell ⟨g7, 1, none⟩ (.int .i64 (Vl.mk 1 0).fault) = W5 at *
 obtain ⟨c0, c1, fz⟩ := hSt.var
 have HS : Hid (Stand w W5 g7 (Vl.mk 1 0)) := hSt
 clear hWn hSt HS2
 go_upto_region 16 with fail
 clear c0 c1 fz
 go_upto_region 17 with (first | (go_at_call 20; refine (single_any _ x y _ _ hx hy (by decide) (run_same0 x y (by omega))).mono ?_; rintro e wn ⟨rfl, hbn⟩; have hSn := HS.out.step hbn; obtain ⟨c0, c1, fz⟩ := hSn.var; have HS2 : Hid (Stand w wn g7 _) := hSn; clear hSn hbn))
 have hSt : Stand w ((wn.setCell ⟨g7, 0, none⟩ (.int .i64 (Vl.mk 0 0).num)).setCell ⟨g7, 1, none⟩ (.int .i64 (Vl.mk 0 0).fault)) g7 (Vl.mk 0 0) := HS2.out.set _
 clear c0 c1 fz HS
 generalize hWn : (wn.setCell ⟨g7, 0, none⟩ (.int .i64 (Vl.mk 0 0).num)).setCell ⟨g7, 1, none⟩ (.int .i64 (Vl.mk 0 0).fault) = W6 at *
 obtain ⟨c0, c1, fz⟩ := hSt.var
 have HS : Hid (Stand w W6 g7 (Vl.mk 0 0)) := hSt
 clear hWn hSt HS2
 go_upto_region 19 with fail
 clear c0 c1 fz
 go_upto_region 20 with (first | (go_at_call 20; refine (single_any _ x y _ _ hx hy (by decide) (run_quo0 x y Y0.out)).mono ?_; rintro e wn ⟨rfl, hbn⟩; have HB7 : Hid (Below w.heap.size w wn) := HS.out.below.trans (hbn.mono HS.out.below.size); clear hbn HS))
 have hSt := Stand.new HB7.out (Vl.mk 0 2) 45
 generalize hW7 : wn.alloc (.cells #[.int .i64 (Vl.mk 0 2 : Vl).num, .int .i64 (Vl.mk 0 2 : Vl).fault] 45) = W7 at *
 generalize hg8 : wn.heap.size = g8 at *
 have HS : Hid (Stand w W7 g8 (Vl.mk 0 2)) := hSt
 clear hW7 hg8 hSt HB7
 go_upto_region 21 with (first | (go_at_call 20; refine (single_any _ x y _ _ hx hy (by decide) (run_left0 x y Y0.out)).mono ?_; rintro e wo ⟨rfl, hbo⟩; have HS8 : Hid (Stand w wo g8 _) := HS.out.step hbo; clear hbo HS))
 have hS9 := Stand.new HS8.out.below (Vl.mk 0 2) 45
 have hS8 : Stand w (wo.alloc (.cells #[.int .i64 (Vl.mk 0 2 : Vl).num, .int .i64 (Vl.mk 0 2 : Vl).fault] 45)) g8 _ := HS8.out.step ((Below.refl _ _).alloc (Nat.le_refl _) _)
 generalize hW8 : wo.alloc (.cells #[.int .i64 (Vl.mk 0 2 : Vl).num, .int .i64 (Vl.mk 0 2 : Vl).fault] 45) = W8 at *
 generalize hg9 : wo.heap.size = g9 at *
 obtain ⟨d0, d1, _⟩ := hS8.var
 obtain ⟨e0, e1, _⟩ := hS9.var
 have HB9 : Hid (Below w.heap.size w W8) := hS9.below
 clear hW8 hg9 HS8 hS8 hS9
 go_wp2_with fail
 all_goals go_ret
 all_goals exact ⟨rfl, HB9.out⟩
set_option maxRecDepth 100000 in
set_option maxHeartbeats 4000000 in
theorem wide_zero_eq (x y : Int) (hx : In64 x) (hy : In64 y) (heq : x = y) (y0 : y = 0) (w : World) :
  Calls Try.prog 8 #[.int .i64 x, .int .i64 y] w fun e w' => e = .returned (.bool true) ∧ Below w.heap.size w w' := by
 have tl : decide (x < y) = false := by simp; omega
 have te : (x == y) = true := by simpa using heq
 have HXY : Hid (x = y) := heq
 clear heq
 have ty : (y == 0) = true := by simpa using y0
 have Y0 : Hid (y = 0) := y0
 clear y0
 obtain ⟨hx1, hx2⟩ := hx
 obtain ⟨hy1, hy2⟩ := hy
 have hx : In64 x := ⟨hx1, hx2⟩
 have hy : In64 y := ⟨hy1, hy2⟩
 have h0 : In64 0 := ⟨by decide, by decide⟩
 go_enter Try.func8, Try.ntmps8
 go_upto_region 2 with (first | (go_at_call 19; refine (sum_add x y hx hy _).mono ?_; rintro e wq ⟨rfl, hwq⟩; rw [hwq]; clear hwq))
 go_upto_region 3 with (first | (go_at_call 20; refine (single_any _ x y _ _ hx hy (by decide) (run_add x y)).mono ?_; rintro e w1 ⟨rfl, hb1⟩; have HS0 : Hid (Below w.heap.size w w1) := hb1; clear hb1))
 have hSt := Stand.new HS0.out (vlOf (x + y)) 45
 generalize hW1 : w1.alloc (.cells #[.int .i64 (vlOf (x + y)).num, .int .i64 (vlOf (x + y)).fault] 45) = W1 at *
 generalize hg7 : w1.heap.size = g7 at *
 obtain ⟨c0, c1, fz⟩ := hSt.var
 have HS : Hid (Stand w W1 g7 (vlOf (x + y))) := hSt
 clear hW1 hg7 hSt HS0
 go_upto_region 4 with (first | (go_at_call 21; refine (exact_any (x + y) _ (by first | exact (fun h => if_pos h) | (intro h; rfl) | (intro h; simp [h])) _).mono ?_; rintro e wm ⟨rfl, hbm⟩; have hSm := HS.out.step hbm; clear hbm c0 c1 fz HS; have HS : Hid (Stand w wm g7 _) := hSm; clear hSm))
 go_upto_region 5 with (first | (go_at_call 19; refine (sum_sub x y hx hy _).mono ?_; rintro e wq ⟨rfl, hwq⟩; rw [hwq]; clear hwq))
 go_upto_region 6 with (first | (go_at_call 20; refine (single_any _ x y _ _ hx hy (by decide) (run_sub x y)).mono ?_; rintro e wn ⟨rfl, hbn⟩; have hSn := HS.out.step hbn; obtain ⟨c0, c1, fz⟩ := hSn.var; have HS2 : Hid (Stand w wn g7 _) := hSn; clear hSn hbn))
 have hSt : Stand w ((wn.setCell ⟨g7, 0, none⟩ (.int .i64 (vlOf (x - y)).num)).setCell ⟨g7, 1, none⟩ (.int .i64 (vlOf (x - y)).fault)) g7 (vlOf (x - y)) := HS2.out.set _
 clear c0 c1 fz HS
 generalize hWn : (wn.setCell ⟨g7, 0, none⟩ (.int .i64 (vlOf (x - y)).num)).setCell ⟨g7, 1, none⟩ (.int .i64 (vlOf (x - y)).fault) = W2 at *
 obtain ⟨c0, c1, fz⟩ := hSt.var
 have HS : Hid (Stand w W2 g7 (vlOf (x - y))) := hSt
 clear hWn hSt HS2
 go_upto_region 7 with (first | (go_at_call 21; refine (exact_any (x - y) _ (by first | exact (fun h => if_pos h) | (intro h; rfl) | (intro h; simp [h])) _).mono ?_; rintro e wm ⟨rfl, hbm⟩; have hSm := HS.out.step hbm; clear hbm c0 c1 fz HS; have HS : Hid (Stand w wm g7 _) := hSm; clear hSm))
 go_upto_region 8 with (first | (go_at_call 22; refine (lawProduct_any x y hx hy _).mono ?_; rintro e wq ⟨pv, hpv, rfl, hpe, hwq⟩; rw [hwq]; clear hwq; have HPE : Hid (fits (x * y) = true → pv = x * y) := hpe; clear hpe))
 go_upto_region 9 with (first | (go_at_call 20; refine (single_any _ x y _ _ hx hy (by decide) (run_mul x y)).mono ?_; rintro e wn ⟨rfl, hbn⟩; have hSn := HS.out.step hbn; obtain ⟨c0, c1, fz⟩ := hSn.var; have HS2 : Hid (Stand w wn g7 _) := hSn; clear hSn hbn))
 have hSt : Stand w ((wn.setCell ⟨g7, 0, none⟩ (.int .i64 (vlOf (x * y)).num)).setCell ⟨g7, 1, none⟩ (.int .i64 (vlOf (x * y)).fault)) g7 (vlOf (x * y)) := HS2.out.set _
 clear c0 c1 fz HS
 generalize hWn : (wn.setCell ⟨g7, 0, none⟩ (.int .i64 (vlOf (x * y)).num)).setCell ⟨g7, 1, none⟩ (.int .i64 (vlOf (x * y)).fault) = W3 at *
 obtain ⟨c0, c1, fz⟩ := hSt.var
 have HS : Hid (Stand w W3 g7 (vlOf (x * y))) := hSt
 clear hWn hSt HS2
 go_upto_region 10 with (first | (go_at_call 21; refine (exact_any (x * y) _ HPE.out _).mono ?_; rintro e wm ⟨rfl, hbm⟩; have hSm := HS.out.step hbm; clear hbm c0 c1 fz HS; have HS : Hid (Stand w wm g7 _) := hSm; clear hSm))
 go_upto_region 11 with (first | (go_at_call 19; refine (sum_sub 0 x h0 hx _).mono ?_; rintro e wq ⟨rfl, hwq⟩; rw [hwq]; clear hwq))
 go_upto_region 12 with (first | (go_at_call 20; refine (single_any _ x y _ _ hx hy (by decide) (run_minus x y)).mono ?_; rintro e wn ⟨rfl, hbn⟩; have hSn := HS.out.step hbn; obtain ⟨c0, c1, fz⟩ := hSn.var; have HS2 : Hid (Stand w wn g7 _) := hSn; clear hSn hbn))
 have hSt : Stand w ((wn.setCell ⟨g7, 0, none⟩ (.int .i64 (vlOf (-x)).num)).setCell ⟨g7, 1, none⟩ (.int .i64 (vlOf (-x)).fault)) g7 (vlOf (-x)) := HS2.out.set _
 clear c0 c1 fz HS
 generalize hWn : (wn.setCell ⟨g7, 0, none⟩ (.int .i64 (vlOf (-x)).num)).setCell ⟨g7, 1, none⟩ (.int .i64 (vlOf (-x)).fault) = W4 at *
 obtain ⟨c0, c1, fz⟩ := hSt.var
 have HS : Hid (Stand w W4 g7 (vlOf (-x))) := hSt
 clear hWn hSt HS2
 go_upto_region 13 with (first | (go_at_call 21; refine (exact_any (-x) _ (by first | exact (fun h => if_pos h) | (intro h; rfl) | (intro h; simp [h])) _).mono ?_; rintro e wm ⟨rfl, hbm⟩; have hSm := HS.out.step hbm; clear hbm c0 c1 fz HS; have HS : Hid (Stand w wm g7 _) := hSm; clear hSm))
 go_upto_region 14 with (first | (go_at_call 20; refine (single_any _ x y _ _ hx hy (by decide) (run_less0 x y (by have := HXY.out; omega))).mono ?_; rintro e wn ⟨rfl, hbn⟩; have hSn := HS.out.step hbn; obtain ⟨c0, c1, fz⟩ := hSn.var; have HS2 : Hid (Stand w wn g7 _) := hSn; clear hSn hbn))
 have hSt : Stand w ((wn.setCell ⟨g7, 0, none⟩ (.int .i64 (Vl.mk 0 0).num)).setCell ⟨g7, 1, none⟩ (.int .i64 (Vl.mk 0 0).fault)) g7 (Vl.mk 0 0) := HS2.out.set _
 clear c0 c1 fz HS
 generalize hWn : (wn.setCell ⟨g7, 0, none⟩ (.int .i64 (Vl.mk 0 0).num)).setCell ⟨g7, 1, none⟩ (.int .i64 (Vl.mk 0 0).fault) = W5 at *
 obtain ⟨c0, c1, fz⟩ := hSt.var
 have HS : Hid (Stand w W5 g7 (Vl.mk 0 0)) := hSt
 clear hWn hSt HS2
 go_upto_region 16 with fail
 clear c0 c1 fz
 go_upto_region 17 with (first | (go_at_call 20; refine (single_any _ x y _ _ hx hy (by decide) (run_same1 x y HXY.out)).mono ?_; rintro e wn ⟨rfl, hbn⟩; have hSn := HS.out.step hbn; obtain ⟨c0, c1, fz⟩ := hSn.var; have HS2 : Hid (Stand w wn g7 _) := hSn; clear hSn hbn))
 have hSt : Stand w ((wn.setCell ⟨g7, 0, none⟩ (.int .i64 (Vl.mk 1 0).num)).setCell ⟨g7, 1, none⟩ (.int .i64 (Vl.mk 1 0).fault)) g7 (Vl.mk 1 0) := HS2.out.set _
 clear c0 c1 fz HS
 generalize hWn : (wn.setCell ⟨g7, 0, none⟩ (.int .i64 (Vl.mk 1 0).num)).setCell ⟨g7, 1, none⟩ (.int .i64 (Vl.mk 1 0).fault) = W6 at *
 obtain ⟨c0, c1, fz⟩ := hSt.var
 have HS : Hid (Stand w W6 g7 (Vl.mk 1 0)) := hSt
 clear hWn hSt HS2
 go_upto_region 19 with fail
 clear c0 c1 fz
 go_upto_region 20 with (first | (go_at_call 20; refine (single_any _ x y _ _ hx hy (by decide) (run_quo0 x y Y0.out)).mono ?_; rintro e wn ⟨rfl, hbn⟩; have HB7 : Hid (Below w.heap.size w wn) := HS.out.below.trans (hbn.mono HS.out.below.size); clear hbn HS))
 have hSt := Stand.new HB7.out (Vl.mk 0 2) 45
 generalize hW7 : wn.alloc (.cells #[.int .i64 (Vl.mk 0 2 : Vl).num, .int .i64 (Vl.mk 0 2 : Vl).fault] 45) = W7 at *
 generalize hg8 : wn.heap.size = g8 at *
 have HS : Hid (Stand w W7 g8 (Vl.mk 0 2)) := hSt
 clear hW7 hg8 hSt HB7
 go_upto_region 21 with (first | (go_at_call 20; refine (single_any _ x y _ _ hx hy (by decide) (run_left0 x y Y0.out)).mono ?_; rintro e wo ⟨rfl, hbo⟩; have HS8 : Hid (Stand w wo g8 _) := HS.out.step hbo; clear hbo HS))
 have hS9 := Stand.new HS8.out.below (Vl.mk 0 2) 45
 have hS8 : Stand w (wo.alloc (.cells #[.int .i64 (Vl.mk 0 2 : Vl).num, .int .i64 (Vl.mk 0 2 : Vl).fault] 45)) g8 _ := HS8.out.step ((Below.refl _ _).alloc (Nat.le_refl _) _)
 generalize hW8 : wo.alloc (.cells #[.int .i64 (Vl.mk 0 2 : Vl).num, .int .i64 (Vl.mk 0 2 : Vl).fault] 45) = W8 at *
 generalize hg9 : wo.heap.size = g9 at *
 obtain ⟨d0, d1, _⟩ := hS8.var
 obtain ⟨e0, e1, _⟩ := hS9.var
 have HB9 : Hid (Below w.heap.size w W8) := hS9.below
 clear hW8 hg9 HS8 hS8 hS9
 go_wp2_with fail
 all_goals go_ret
 all_goals exact ⟨rfl, HB9.out⟩
set_option maxRecDepth 100000 in
set_option maxHeartbeats 4000000 in
theorem wide_zero_gt (x y : Int) (hx : In64 x) (hy : In64 y) (hgt : y < x) (y0 : y = 0) (w : World) :
  Calls Try.prog 8 #[.int .i64 x, .int .i64 y] w fun e w' => e = .returned (.bool true) ∧ Below w.heap.size w w' := by
 have tl : decide (x < y) = false := by simp; omega
 have te : (x == y) = false := by simp; omega
 have ty : (y == 0) = true := by simpa using y0
 have Y0 : Hid (y = 0) := y0
 clear y0
 obtain ⟨hx1, hx2⟩ := hx
 obtain ⟨hy1, hy2⟩ := hy
 have hx : In64 x := ⟨hx1, hx2⟩
 have hy : In64 y := ⟨hy1, hy2⟩
 have h0 : In64 0 := ⟨by decide, by decide⟩
 go_enter Try.func8, Try.ntmps8
 go_upto_region 2 with (first | (go_at_call 19; refine (sum_add x y hx hy _).mono ?_; rintro e wq ⟨rfl, hwq⟩; rw [hwq]; clear hwq))
 go_upto_region 3 with (first | (go_at_call 20; refine (single_any _ x y _ _ hx hy (by decide) (run_add x y)).mono ?_; rintro e w1 ⟨rfl, hb1⟩; have HS0 : Hid (Below w.heap.size w w1) := hb1; clear hb1))
 have hSt := Stand.new HS0.out (vlOf (x + y)) 45
 generalize hW1 : w1.alloc (.cells #[.int .i64 (vlOf (x + y)).num, .int .i64 (vlOf (x + y)).fault] 45) = W1 at *
 generalize hg7 : w1.heap.size = g7 at *
 obtain ⟨c0, c1, fz⟩ := hSt.var
 have HS : Hid (Stand w W1 g7 (vlOf (x + y))) := hSt
 clear hW1 hg7 hSt HS0
 go_upto_region 4 with (first | (go_at_call 21; refine (exact_any (x + y) _ (by first | exact (fun h => if_pos h) | (intro h; rfl) | (intro h; simp [h])) _).mono ?_; rintro e wm ⟨rfl, hbm⟩; have hSm := HS.out.step hbm; clear hbm c0 c1 fz HS; have HS : Hid (Stand w wm g7 _) := hSm; clear hSm))
 go_upto_region 5 with (first | (go_at_call 19; refine (sum_sub x y hx hy _).mono ?_; rintro e wq ⟨rfl, hwq⟩; rw [hwq]; clear hwq))
 go_upto_region 6 with (first | (go_at_call 20; refine (single_any _ x y _ _ hx hy (by decide) (run_sub x y)).mono ?_; rintro e wn ⟨rfl, hbn⟩; have hSn := HS.out.step hbn; obtain ⟨c0, c1, fz⟩ := hSn.var; have HS2 : Hid (Stand w wn g7 _) := hSn; clear hSn hbn))
 have hSt : Stand w ((wn.setCell ⟨g7, 0, none⟩ (.int .i64 (vlOf (x - y)).num)).setCell ⟨g7, 1, none⟩ (.int .i64 (vlOf (x - y)).fault)) g7 (vlOf (x - y)) := HS2.out.set _
 clear c0 c1 fz HS
 generalize hWn : (wn.setCell ⟨g7, 0, none⟩ (.int .i64 (vlOf (x - y)).num)).setCell ⟨g7, 1, none⟩ (.int .i64 (vlOf (x - y)).fault) = W2 at *
 obtain ⟨c0, c1, fz⟩ := hSt.var
 have HS : Hid (Stand w W2 g7 (vlOf (x - y))) := hSt
 clear hWn hSt HS2
 go_upto_region 7 with (first | (go_at_call 21; refine (exact_any (x - y) _ (by first | exact (fun h => if_pos h) | (intro h; rfl) | (intro h; simp [h])) _).mono ?_; rintro e wm ⟨rfl, hbm⟩; have hSm := HS.out.step hbm; clear hbm c0 c1 fz HS; have HS : Hid (Stand w wm g7 _) := hSm; clear hSm))
 go_upto_region 8 with (first | (go_at_call 22; refine (lawProduct_any x y hx hy _).mono ?_; rintro e wq ⟨pv, hpv, rfl, hpe, hwq⟩; rw [hwq]; clear hwq; have HPE : Hid (fits (x * y) = true → pv = x * y) := hpe; clear hpe))
 go_upto_region 9 with (first | (go_at_call 20; refine (single_any _ x y _ _ hx hy (by decide) (run_mul x y)).mono ?_; rintro e wn ⟨rfl, hbn⟩; have hSn := HS.out.step hbn; obtain ⟨c0, c1, fz⟩ := hSn.var; have HS2 : Hid (Stand w wn g7 _) := hSn; clear hSn hbn))
 have hSt : Stand w ((wn.setCell ⟨g7, 0, none⟩ (.int .i64 (vlOf (x * y)).num)).setCell ⟨g7, 1, none⟩ (.int .i64 (vlOf (x * y)).fault)) g7 (vlOf (x * y)) := HS2.out.set _
 clear c0 c1 fz HS
 generalize hWn : (wn.setCell ⟨g7, 0, none⟩ (.int .i64 (vlOf (x * y)).num)).setCell ⟨g7, 1, none⟩ (.int .i64 (vlOf (x * y)).fault) = W3 at *
 obtain ⟨c0, c1, fz⟩ := hSt.var
 have HS : Hid (Stand w W3 g7 (vlOf (x * y))) := hSt
 clear hWn hSt HS2
 go_upto_region 10 with (first | (go_at_call 21; refine (exact_any (x * y) _ HPE.out _).mono ?_; rintro e wm ⟨rfl, hbm⟩; have hSm := HS.out.step hbm; clear hbm c0 c1 fz HS; have HS : Hid (Stand w wm g7 _) := hSm; clear hSm))
 go_upto_region 11 with (first | (go_at_call 19; refine (sum_sub 0 x h0 hx _).mono ?_; rintro e wq ⟨rfl, hwq⟩; rw [hwq]; clear hwq))
 go_upto_region 12 with (first | (go_at_call 20; refine (single_any _ x y _ _ hx hy (by decide) (run_minus x y)).mono ?_; rintro e wn ⟨rfl, hbn⟩; have hSn := HS.out.step hbn; obtain ⟨c0, c1, fz⟩ := hSn.var; have HS2 : Hid (Stand w wn g7 _) := hSn; clear hSn hbn))
 have hSt : Stand w ((wn.setCell ⟨g7, 0, none⟩ (.int .i64 (vlOf (-x)).num)).setCell ⟨g7, 1, none⟩ (.int .i64 (vlOf (-x)).fault)) g7 (vlOf (-x)) := HS2.out.set _
 clear c0 c1 fz HS
 generalize hWn : (wn.setCell ⟨g7, 0, none⟩ (.int .i64 (vlOf (-x)).num)).setCell ⟨g7, 1, none⟩ (.int .i64 (vlOf (-x)).fault) = W4 at *
 obtain ⟨c0, c1, fz⟩ := hSt.var
 have HS : Hid (Stand w W4 g7 (vlOf (-x))) := hSt
 clear hWn hSt HS2
 go_upto_region 13 with (first | (go_at_call 21; refine (exact_any (-x) _ (by first | exact (fun h => if_pos h) | (intro h; rfl) | (intro h; simp [h])) _).mono ?_; rintro e wm ⟨rfl, hbm⟩; have hSm := HS.out.step hbm; clear hbm c0 c1 fz HS; have HS : Hid (Stand w wm g7 _) := hSm; clear hSm))
 go_upto_region 14 with (first | (go_at_call 20; refine (single_any _ x y _ _ hx hy (by decide) (run_less0 x y (by omega))).mono ?_; rintro e wn ⟨rfl, hbn⟩; have hSn := HS.out.step hbn; obtain ⟨c0, c1, fz⟩ := hSn.var; have HS2 : Hid (Stand w wn g7 _) := hSn; clear hSn hbn))
 have hSt : Stand w ((wn.setCell ⟨g7, 0, none⟩ (.int .i64 (Vl.mk 0 0).num)).setCell ⟨g7, 1, none⟩ (.int .i64 (Vl.mk 0 0).fault)) g7 (Vl.mk 0 0) := HS2.out.set _
 clear c0 c1 fz HS
 generalize hWn : (wn.setCell ⟨g7, 0, none⟩ (.int .i64 (Vl.mk 0 0).num)).setCell ⟨g7, 1, none⟩ (.int .i64 (Vl.mk 0 0).fault) = W5 at *
 obtain ⟨c0, c1, fz⟩ := hSt.var
 have HS : Hid (Stand w W5 g7 (Vl.mk 0 0)) := hSt
 clear hWn hSt HS2
 go_upto_region 16 with fail
 clear c0 c1 fz
 go_upto_region 17 with (first | (go_at_call 20; refine (single_any _ x y _ _ hx hy (by decide) (run_same0 x y (by omega))).mono ?_; rintro e wn ⟨rfl, hbn⟩; have hSn := HS.out.step hbn; obtain ⟨c0, c1, fz⟩ := hSn.var; have HS2 : Hid (Stand w wn g7 _) := hSn; clear hSn hbn))
 have hSt : Stand w ((wn.setCell ⟨g7, 0, none⟩ (.int .i64 (Vl.mk 0 0).num)).setCell ⟨g7, 1, none⟩ (.int .i64 (Vl.mk 0 0).fault)) g7 (Vl.mk 0 0) := HS2.out.set _
 clear c0 c1 fz HS
 generalize hWn : (wn.setCell ⟨g7, 0, none⟩ (.int .i64 (Vl.mk 0 0).num)).setCell ⟨g7, 1, none⟩ (.int .i64 (Vl.mk 0 0).fault) = W6 at *
 obtain ⟨c0, c1, fz⟩ := hSt.var
 have HS : Hid (Stand w W6 g7 (Vl.mk 0 0)) := hSt
 clear hWn hSt HS2
 go_upto_region 19 with fail
 clear c0 c1 fz
 go_upto_region 20 with (first | (go_at_call 20; refine (single_any _ x y _ _ hx hy (by decide) (run_quo0 x y Y0.out)).mono ?_; rintro e wn ⟨rfl, hbn⟩; have HB7 : Hid (Below w.heap.size w wn) := HS.out.below.trans (hbn.mono HS.out.below.size); clear hbn HS))
 have hSt := Stand.new HB7.out (Vl.mk 0 2) 45
 generalize hW7 : wn.alloc (.cells #[.int .i64 (Vl.mk 0 2 : Vl).num, .int .i64 (Vl.mk 0 2 : Vl).fault] 45) = W7 at *
 generalize hg8 : wn.heap.size = g8 at *
 have HS : Hid (Stand w W7 g8 (Vl.mk 0 2)) := hSt
 clear hW7 hg8 hSt HB7
 go_upto_region 21 with (first | (go_at_call 20; refine (single_any _ x y _ _ hx hy (by decide) (run_left0 x y Y0.out)).mono ?_; rintro e wo ⟨rfl, hbo⟩; have HS8 : Hid (Stand w wo g8 _) := HS.out.step hbo; clear hbo HS))
 have hS9 := Stand.new HS8.out.below (Vl.mk 0 2) 45
 have hS8 : Stand w (wo.alloc (.cells #[.int .i64 (Vl.mk 0 2 : Vl).num, .int .i64 (Vl.mk 0 2 : Vl).fault] 45)) g8 _ := HS8.out.step ((Below.refl _ _).alloc (Nat.le_refl _) _)
 generalize hW8 : wo.alloc (.cells #[.int .i64 (Vl.mk 0 2 : Vl).num, .int .i64 (Vl.mk 0 2 : Vl).fault] 45) = W8 at *
 generalize hg9 : wo.heap.size = g9 at *
 obtain ⟨d0, d1, _⟩ := hS8.var
 obtain ⟨e0, e1, _⟩ := hS9.var
 have HB9 : Hid (Below w.heap.size w W8) := hS9.below
 clear hW8 hg9 HS8 hS8 hS9
 go_wp2_with fail
 all_goals go_ret
 all_goals exact ⟨rfl, HB9.out⟩
end Go.Proofs.Ytdgmoiflahoihaa
