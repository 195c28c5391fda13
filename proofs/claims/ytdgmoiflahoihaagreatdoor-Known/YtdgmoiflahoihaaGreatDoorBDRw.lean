import Derived.Test.YtdgmoiflahoihaaGreatDoorBDSw
import Derived.Test.YtdgmoiflahoihaaGreatDoorRVw
import Derived.Test.YtdgmoiflahoihaaGreatDoorREx4w

namespace Go.Proofs.YtdgmoiflahoihaaGreatDoor
open Go.RowKit
set_option linter.unusedSimpArgs false
set_option linter.unusedVariables false
theorem bdMinF_bound (B : Nat) : ∀ (r : List UInt8) (v : Nat), v ≤ B → (bdMinF B r v).1 ≤ B
 | [], v, h => h
 | c :: r, v, h => by
  unfold bdMinF
  split
  ·split
   ·exact Nat.zero_le _
   ·exact bdMinF_bound B r _ (by omega)
  ·exact h
theorem take19 (x : Sc) : (x.take 49 57).1 ≤ 8 := by
 unfold Sc.take
 split
 ·exact Nat.zero_le _
 ·rename_i c r e
  split
  ·rename_i h
   rw [Bool.and_eq_true, decide_eq_true_eq, decide_eq_true_eq, UInt8.le_iff_toNat_le, UInt8.le_iff_toNat_le] at h
   have a1 : (49 : UInt8).toNat = 49 := rfl
   have a2 : (57 : UInt8).toNat = 57 := rfl
   rw [a1, a2] at h
   simp only
   rw [a1]
   omega
  ·exact Nat.zero_le _
theorem minus_bound (x : Sc) {B : Nat} (hB : 9 ≤ B) : (x.minus B).1 ≤ B := by
 have := take19 x
 unfold Sc.minus
 exact bdMinF_bound B _ _ (by omega)
theorem number_bound (x : Sc) {B : Nat} (hB : 9 ≤ B) : (x.number B).1 ≤ B := by
 unfold Sc.number
 split
 ·exact Nat.zero_le _
 ·exact minus_bound x hB
theorem ScAt.len {w : World} {b : Nat} {s : ByteArray} {x : Sc} (h : ScAt w b s x) : ∃ p : Nat, p + x.rest.length = s.size ∧ w.cell? ⟨b, 1, none⟩ = some (.int .i64 p) := by
 obtain ⟨⟨p, h1, h2, h3⟩, _⟩ := h
 refine ⟨p, ?_, h3⟩
 rw [← h2, List.length_drop]
 have : s.data.toList.length = s.size := by simp
 omega
theorem sees_cons {x : Sc} (h : x.sees 48 57 = true) : ∃ c r, x.rest = c :: r ∧ isDig c = true ∧ x.take 48 57 = (c.toNat - 48, ⟨r, x.bad⟩) := by
 unfold Sc.sees at h
 split at h
 ·cases h
 ·rename_i c r e
  refine ⟨c, r, e, h, ?_⟩
  unfold Sc.take
  rw [e]
  simp only
  rw [if_pos h]
  rfl
theorem sees_none {x : Sc} (B k : Nat) (h : x.sees 48 57 = false) : bdMinF B x.rest k = (k, x.rest, false) := by
 unfold Sc.sees at h
 split at h
 ·rename_i e; rw [e]; rfl
 ·rename_i c r e
  rw [e, bdMinF, if_neg (by unfold isDig; rw [h]; exact Bool.false_ne_true)]
set_option maxHeartbeats 100000000 in
theorem bdMinus_any (b : Nat) (s : ByteArray) (x : Sc) (B : Nat) (w : World) (h : ScAt w b s x) (hs : s.size ≤ 100000000) (hB : 9 ≤ B) (hB2 : B ≤ 9223372036854775808) :
  Calls Tryz.prog 171 #[.pointer (some ⟨b, 0, none⟩), .int .i64 (-(B : Int))] w fun e w' => e = .returned (.int .i64 (-((x.minus B).1 : Int))) ∧ ScAt w' b s (x.minus B).2 ∧ But b w w' := by
 have HH : Hid (ScAt w b s x) := h
 clear h
 have h19 := take19 x
 have HR : Hid (((bdMinF B (x.take 49 57).2.rest ((x.take 49 57).1 + 1)).1, Sc.mk (bdMinF B (x.take 49 57).2.rest ((x.take 49 57).1 + 1)).2.1 ((x.take 49 57).2.bad || (bdMinF B (x.take 49 57).2.rest ((x.take 49 57).1 + 1)).2.2)) = x.minus B) := rfl
 have HT : Hid (∀ w, ScAt w b s x → Calls Tryz.prog 172 #[.pointer (some ⟨b, 0, none⟩), .int .u8 49, .int .u8 57] w fun e w' => e = .returned (.int .i64 ((x.take 49 57).1 : Nat)) ∧ ScAt w' b s (x.take 49 57).2 ∧ But b w w') := fun w h => bdTake_any b s x 49 57 w h hs
 generalize x.minus B = R at *
 generalize x.take 49 57 = y at *
 obtain ⟨d, y⟩ := y
 simp only at HR HT h19
 go_enter Tryz.func171, Tryz.ntmps171
 go_wp2_with (go_at_call 172; refine (HT.out _ HH.out).mono ?_; rintro e w1 ⟨rfl, hs1, hb1⟩; have HS1 : Hid (ScAt w1 b s y) := hs1; have HB1 : Hid (But b w w1) := hb1; clear hs1 hb1)
 go_loopw [5] (fun v w' => ∃ (k : Nat) (z : Sc), v = .int .i64 (-(k : Int)) ∧ 1 ≤ k ∧ k ≤ B ∧ Hid (ScAt w' b s z) ∧ Hid (But b w w') ∧ Hid (((bdMinF B z.rest k).1, Sc.mk (bdMinF B z.rest k).2.1 (z.bad || (bdMinF B z.rest k).2.2)) = R)) (fun _ w' => s.size - (intOf ((w'.cell? ⟨b, 1, none⟩).getD undef)).toNat)
 case atStart => exact ⟨d + 1, y, by go_num, by omega, by omega, HS1, HB1, HR⟩
 case round =>
  obtain ⟨k, z, rfl, hk1, hk2, HZ, HW, HF⟩ := hrel
  have HSE : Hid (∀ w, ScAt w b s z → Calls Tryz.prog 189 #[.pointer (some ⟨b, 0, none⟩), .int .u8 48, .int .u8 57] w fun e w' => e = .returned (.bool (z.sees 48 57)) ∧ ∃ n, w' = w.drewN n) := fun w h => bdSees_any b s z 48 57 w h hs
  cases hsee : z.sees 48 57
  ·have hR : R = (k, z) := by rw [← HF.out, sees_none B k hsee]; simp
   subst hR
   rw [hsee] at HSE
   go_wp2_with (go_at_call 189; refine (HSE.out _ HZ.out).mono ?_; rintro e w2 ⟨rfl, n, hw2⟩)
   go_ret
   subst hw2
   exact ⟨rfl, HZ.out.drewN n, HW.out.drewN n⟩
  ·obtain ⟨c, r, e1, e2, e3⟩ := sees_cons hsee
   obtain ⟨dd, f1, f2, f3⟩ := dig_back e2
   rw [hsee] at HSE
   have HTE : Hid (∀ w, ScAt w b s z → Calls Tryz.prog 172 #[.pointer (some ⟨b, 0, none⟩), .int .u8 48, .int .u8 57] w fun e w' => e = .returned (.int .i64 (dd : Nat)) ∧ ScAt w' b s ⟨r, z.bad⟩ ∧ But b w w') := fun w h => by
    have := bdTake_any b s z 48 57 w h hs
    rw [e3, f3] at this
    exact this
   have hF := HF.out
   rw [e1, bdMinF, if_pos e2, f3] at hF
   have hq : ((-(B : Int) + (dd : Int)).tdiv 10) = -(((B - dd) / 10 : Nat) : Int) := by
    rw [show (-(B : Int) + (dd : Int)) = -((B - dd : Nat) : Int) by omega, Int.neg_tdiv]
    rfl
   obtain ⟨p, hp1, hp2⟩ := HZ.out.len
   rw [e1, List.length_cons] at hp1
   by_cases hbig : B < 10 * k + dd
   ·rw [if_pos hbig] at hF
    have hR : R = (0, ⟨r, true⟩) := by rw [← hF]; simp
    subst hR
    have tb : decide (-(k : Int) < -(((B - dd) / 10 : Nat) : Int)) = true := by rw [decide_eq_true_iff]; omega
    clear hF HF
    go_wp2_with (first | (go_at_call 189; refine (HSE.out _ HZ.out).mono ?_; rintro e w2 ⟨rfl, n, hw2⟩; have HZ2 : Hid (ScAt w2 b s z) := (by subst hw2; exact HZ.out.drewN n); have HW2 : Hid (But b w w2) := (by subst hw2; exact HW.out.drewN n); clear hw2) | (go_at_call 172; refine (HTE.out _ HZ2.out).mono ?_; rintro e w3 ⟨rfl, hs3, hb3⟩; have HZ3 : Hid (ScAt w3 b s ⟨r, z.bad⟩) := hs3; have HW3 : Hid (But b w w3) := HW2.out.trans hb3; clear hs3 hb3) | (go_at_call 190; refine (bdFail_any b s _ _ HZ3.out).mono ?_; rintro e w4 ⟨rfl, hs4, hb4⟩; have HZ4 : Hid (ScAt w4 b s ⟨r, true⟩) := hs4; have HW4 : Hid (But b w w4) := HW3.out.trans hb4; clear hs4 hb4))
    go_ret
    exact ⟨rfl, HZ4.out, HW4.out⟩
   ·rw [if_neg hbig] at hF
    have HN : Hid (((bdMinF B r (10 * k + dd)).1, Sc.mk (bdMinF B r (10 * k + dd)).2.1 (z.bad || (bdMinF B r (10 * k + dd)).2.2)) = R) := hF
    have tb : decide (-(k : Int) < -(((B - dd) / 10 : Nat) : Int)) = false := by rw [decide_eq_false_iff_not]; omega
    clear hF HF
    go_wp2_with (first | (go_at_call 189; refine (HSE.out _ HZ.out).mono ?_; rintro e w2 ⟨rfl, n, hw2⟩; have HZ2 : Hid (ScAt w2 b s z) := (by subst hw2; exact HZ.out.drewN n); have HW2 : Hid (But b w w2) := (by subst hw2; exact HW.out.drewN n); clear hw2) | (go_at_call 172; refine (HTE.out _ HZ2.out).mono ?_; rintro e w3 ⟨rfl, hs3, hb3⟩; have HZ3 : Hid (ScAt w3 b s ⟨r, z.bad⟩) := hs3; have HW3 : Hid (But b w w3) := HW2.out.trans hb3; clear hs3 hb3))
    obtain ⟨p3, hq1, hq2⟩ := HZ3.out.len
    refine ⟨⟨10 * k + dd, ⟨r, z.bad⟩, by go_num, by omega, by omega, HZ3, HW3, HN⟩, ?_⟩
    rw [hp2, hq2]
    simp only at hq1
    simp [intOf]
    omega
theorem ScAt.lt {w : World} {b : Nat} {s : ByteArray} {x : Sc} (h : ScAt w b s x) : b < w.heap.size := World.block_lt_of_cell? w _ h.c0
theorem ScAt.block {w w' : World} {b : Nat} {s : ByteArray} {x : Sc} (h : ScAt w b s x) (hh : w'.heap[b]? = w.heap[b]?) : ScAt w' b s x := by
 obtain ⟨⟨p, h1, h2, c1⟩, c0, c2, fz⟩ := h
 exact ⟨⟨p, h1, h2, (World.cell?_of_block (a := ⟨b, 1, none⟩) hh).trans c1⟩, (World.cell?_of_block (a := ⟨b, 0, none⟩) hh).trans c0, (World.cell?_of_block (a := ⟨b, 2, none⟩) hh).trans c2, fun o => (World.frozen?_of_block (a := ⟨b, o, none⟩) hh).trans (fz o)⟩
theorem ScAt.alloc {w : World} {b : Nat} {s : ByteArray} {x : Sc} (h : ScAt w b s x) (o : Obj) : ScAt (w.alloc o) b s x := h.block (Below.heap_alloc _ _ _ (by have := h.lt; omega))
set_option maxHeartbeats 1000000 in
theorem bdNumber_any (b : Nat) (s : ByteArray) (x : Sc) (B : Nat) (w : World) (h : ScAt w b s x) (hs : s.size ≤ 100000000) (hB : 9 ≤ B) (hB2 : B ≤ 9223372036854775807) :
  Calls Tryz.prog 128 #[.pointer (some ⟨b, 0, none⟩), .int .i64 (B : Int)] w fun e w' => e = .returned (.int .i64 ((x.number B).1 : Nat)) ∧ ScAt w' b s (x.number B).2 ∧ But b w w' := by
 have HH : Hid (ScAt w b s x) := h
 clear h
 have HSE : Hid (∀ w, ScAt w b s x → Calls Tryz.prog 170 #[.pointer (some ⟨b, 0, none⟩), .int .u8 48] w fun e w' => e = .returned (.bool (x.sees 48 48)) ∧ ∃ n, w' = w.drewN n) := fun w h => bdSee_any b s x 48 w h hs
 cases hsee : x.sees 48 48
 ·have hx : x.number B = x.minus B := by unfold Sc.number; rw [hsee]; rfl
  have hm := minus_bound x hB
  have HM : Hid (∀ w, ScAt w b s x → Calls Tryz.prog 171 #[.pointer (some ⟨b, 0, none⟩), .int .i64 (-(B : Int))] w fun e w' => e = .returned (.int .i64 (-((x.minus B).1 : Int))) ∧ ScAt w' b s (x.minus B).2 ∧ But b w w') := fun w h => bdMinus_any b s x B w h hs hB (by omega)
  rw [hx]
  clear hx
  rw [hsee] at HSE
  generalize x.minus B = R at *
  obtain ⟨n, y⟩ := R
  simp only at HM hm
  go_enter Tryz.func128, Tryz.ntmps128
  go_wp2_with (first | (go_at_call 170; refine (HSE.out _ HH.out).mono ?_; rintro e w2 ⟨rfl, n2, hw2⟩; have HZ2 : Hid (ScAt w2 b s x) := (by subst hw2; exact HH.out.drewN n2); have HW2 : Hid (But b w w2) := (by subst hw2; exact (But.refl _ _).drewN n2); clear hw2) | (go_at_call 171; refine (HM.out _ HZ2.out).mono ?_; rintro e w3 ⟨rfl, hs3, hb3⟩; have HZ3 : Hid (ScAt w3 b s y) := hs3; have HW3 : Hid (But b w w3) := HW2.out.trans hb3; clear hs3 hb3))
  go_ret
  refine ⟨?_, HZ3.out, HW3.out⟩
  first | rfl | (rw [Int.neg_neg])
 ·have hx : x.number B = (0, (x.take 48 48).2) := by unfold Sc.number; rw [hsee]; rfl
  have HM : Hid (∀ w, ScAt w b s x → Calls Tryz.prog 129 #[.pointer (some ⟨b, 0, none⟩), .int .u8 48] w fun e w' => e = .returned (.tuple #[]) ∧ ScAt w' b s (x.take 48 48).2 ∧ But b w w') := fun w h => bdTook_any b s x 48 w h hs
  rw [hx]
  clear hx
  rw [hsee] at HSE
  generalize (x.take 48 48).2 = y at *
  go_enter Tryz.func128, Tryz.ntmps128
  go_wp2_with (first | (go_at_call 170; refine (HSE.out _ HH.out).mono ?_; rintro e w2 ⟨rfl, n2, hw2⟩; have HZ2 : Hid (ScAt w2 b s x) := (by subst hw2; exact HH.out.drewN n2); have HW2 : Hid (But b w w2) := (by subst hw2; exact (But.refl _ _).drewN n2); clear hw2) | (go_at_call 129; refine (HM.out _ HZ2.out).mono ?_; rintro e w3 ⟨rfl, hs3, hb3⟩; have HZ3 : Hid (ScAt w3 b s y) := hs3; have HW3 : Hid (But b w w3) := HW2.out.trans hb3; clear hs3 hb3))
  go_ret
  exact ⟨rfl, HZ3.out, HW3.out⟩
structure BdL (w W : World) (b : Nat) (s : ByteArray) (x : Sc) : Prop where
 sc : ScAt W b s x
 c0 : W.cell? ⟨w.heap.size, 0, none⟩ = some (.int .i64 0)
 c1 : W.cell? ⟨w.heap.size, 1, none⟩ = some (.int .i64 0)
 fz : ∀ o, W.frozen? ⟨w.heap.size, o, none⟩ = false
 but : But b w W
 size : w.heap.size + 1 ≤ W.heap.size
 lt : b < w.heap.size
theorem BdL.start {w : World} {b : Nat} {s : ByteArray} {x : Sc} (h : ScAt w b s x) (t : TypeId) : BdL w (w.alloc (.cells #[.int .i64 0, .int .i64 0] t)) b s x :=
 ⟨h.alloc _, by simp [go_sem], by simp [go_sem], fun o => by simp [go_sem], (But.refl _ _).alloc _, by simp, h.lt⟩
theorem BdL.call {w W W' : World} {b : Nat} {s : ByteArray} {x y : Sc} (L : BdL w W b s x) (h : ScAt W' b s y) (hb : But b W W') : BdL w W' b s y := by
 have hs := L.size
 have hl := L.lt
 have k0 : W'.heap[w.heap.size]? = W.heap[w.heap.size]? := hb.block _ (by omega) (fun e => by cases e; omega)
 exact ⟨h, (World.cell?_of_block (a := ⟨w.heap.size, 0, none⟩) k0).trans L.c0, (World.cell?_of_block (a := ⟨w.heap.size, 1, none⟩) k0).trans L.c1, fun o => (World.frozen?_of_block (a := ⟨w.heap.size, o, none⟩) k0).trans (L.fz o), L.but.trans hb, Nat.le_trans hs hb.size, hl⟩
theorem BdL.drewN {w W : World} {b : Nat} {s : ByteArray} {x : Sc} (L : BdL w W b s x) (n : Nat) : BdL w (W.drewN n) b s x := L.call (L.sc.drewN n) ((But.refl _ _).drewN n)
theorem BdL.done {w W : World} {b : Nat} {s : ByteArray} {x : Sc} (L : BdL w W b s x) (u v : Value) : ScAt ((W.setCell ⟨w.heap.size, 0, none⟩ u).setCell ⟨w.heap.size, 1, none⟩ v) b s x ∧ But b w ((W.setCell ⟨w.heap.size, 0, none⟩ u).setCell ⟨w.heap.size, 1, none⟩ v) := by
 have hl := L.lt
 refine ⟨L.sc.block ?_, (L.but.setNew _ _ (Nat.le_refl _)).setNew _ _ (Nat.le_refl _)⟩
 rw [Below.heap_setCell _ _ _ _ (by simp only; omega), Below.heap_setCell _ _ _ _ (by simp only; omega)]
theorem take12 (x : Sc) : (x.take 49 50).1 ≤ 1 := by
 unfold Sc.take
 split
 ·exact Nat.zero_le _
 ·rename_i c r e
  split
  ·rename_i h
   rw [Bool.and_eq_true, decide_eq_true_eq, decide_eq_true_eq, UInt8.le_iff_toNat_le, UInt8.le_iff_toNat_le] at h
   have a1 : (49 : UInt8).toNat = 49 := rfl
   have a2 : (50 : UInt8).toNat = 50 := rfl
   rw [a1, a2] at h
   simp only
   rw [a1]
   omega
  ·exact Nat.zero_le _
theorem BdL.below {w W W' : World} {b : Nat} {s : ByteArray} {x : Sc} (L : BdL w W b s x) (h : Below W.heap.size W W') : BdL w W' b s x :=
 L.call (L.sc.block (h.block _ L.sc.lt)) ⟨h.os, h.tape, h.output, h.size, fun k hk _ => h.block k hk⟩
set_option maxHeartbeats 100000000 in
theorem bdValue_any (b : Nat) (s : ByteArray) (x : Sc) (w : World) (h : ScAt w b s x) (hs : s.size ≤ 100000000) :
  Calls Tryz.prog 130 #[.pointer (some ⟨b, 0, none⟩)] w fun e w' => e = .returned (vlV x.value.1) ∧ ScAt w' b s x.value.2 ∧ But b w w' := by
 have HL0 : Hid (BdL w (w.alloc (.cells #[.int .i64 0, .int .i64 0] 59)) b s x) := BdL.start h _
 clear h
 have H33 : Hid (∀ w, ScAt w b s x → Calls Tryz.prog 170 #[.pointer (some ⟨b, 0, none⟩), .int .u8 33] w fun e w' => e = .returned (.bool (x.sees 33 33)) ∧ ∃ n, w' = w.drewN n) := fun w h => bdSee_any b s x 33 w h hs
 have H45 : Hid (∀ w, ScAt w b s x → Calls Tryz.prog 170 #[.pointer (some ⟨b, 0, none⟩), .int .u8 45] w fun e w' => e = .returned (.bool (x.sees 45 45)) ∧ ∃ n, w' = w.drewN n) := fun w h => bdSee_any b s x 45 w h hs
 have T33 : Hid (∀ w, ScAt w b s x → Calls Tryz.prog 129 #[.pointer (some ⟨b, 0, none⟩), .int .u8 33] w fun e w' => e = .returned (.tuple #[]) ∧ ScAt w' b s (x.take 33 33).2 ∧ But b w w') := fun w h => bdTook_any b s x 33 w h hs
 have T45 : Hid (∀ w, ScAt w b s x → Calls Tryz.prog 129 #[.pointer (some ⟨b, 0, none⟩), .int .u8 45] w fun e w' => e = .returned (.tuple #[]) ∧ ScAt w' b s (x.take 45 45).2 ∧ But b w w') := fun w h => bdTook_any b s x 45 w h hs
 cases h33 : x.sees 33 33
 ·rw [h33] at H33
  cases h45 : x.sees 45 45
  ·rw [h45] at H45
   have hx : x.value = (⟨((x.number 9223372036854775807).1 : Nat), 0⟩, (x.number 9223372036854775807).2) := by unfold Sc.value; rw [h33, h45]; rfl
   have hm := number_bound x (B := 9223372036854775807) (by decide)
   have HM : Hid (∀ w, ScAt w b s x → Calls Tryz.prog 128 #[.pointer (some ⟨b, 0, none⟩), .int .i64 9223372036854775807] w fun e w' => e = .returned (.int .i64 ((x.number 9223372036854775807).1 : Nat)) ∧ ScAt w' b s (x.number 9223372036854775807).2 ∧ But b w w') := fun w h => bdNumber_any b s x 9223372036854775807 w h hs (by decide) (by decide)
   rw [hx]
   clear hx h33 h45
   generalize x.number 9223372036854775807 = R at *
   obtain ⟨n, y⟩ := R
   simp only at HM hm
   have HN : Hid (GivesV 100 #[.int .i64 n] ⟨n, 0⟩) := number_any n
   go_enter Tryz.func130, Tryz.ntmps130
   go_wp2_with (first | (go_at_call 170; refine (H45.out _ HLa.out.sc).mono ?_; rintro e wb ⟨rfl, nb, hwb⟩; have HLb : Hid (BdL w wb b s x) := (by subst hwb; exact HLa.out.drewN nb); clear hwb) | (go_at_call 170; refine (H33.out _ HL0.out.sc).mono ?_; rintro e wa ⟨rfl, na, hwa⟩; have HLa : Hid (BdL w wa b s x) := (by subst hwa; exact HL0.out.drewN na); clear hwa) | (go_at_call 128; refine (HM.out _ HLb.out.sc).mono ?_; rintro e wc ⟨rfl, hsc, hbc⟩; have HLc : Hid (BdL w wc b s y) := HLb.out.call hsc hbc; clear hsc hbc) | (go_at_call 100; refine (HN.out _).mono ?_; rintro e wd ⟨rfl, hbd⟩; have HLd : Hid (BdL w wd b s y) := HLc.out.below hbd; have c0 := HLd.out.c0; have c1 := HLd.out.c1; have fz := HLd.out.fz; clear hbd))
   obtain ⟨r1, r2⟩ := HLd.out.done (.int .i64 n) (.int .i64 0)
   exact bodyPost_ret (v := vlV ⟨n, 0⟩) (by simp [results, Tryz.results130, go_sem, c0, c1, fz]) rfl ⟨rfl, r1, r2⟩
  ·rw [h45] at H45
   have hx : x.value = (⟨-(((x.take 45 45).2.minus 9223372036854775808).1 : Int), 0⟩, ((x.take 45 45).2.minus 9223372036854775808).2) := by unfold Sc.value; rw [h33, h45]; rfl
   rw [hx]
   clear hx h33 h45
   generalize (x.take 45 45).2 = z at *
   have hm := minus_bound z (B := 9223372036854775808) (by decide)
   have HM : Hid (∀ w, ScAt w b s z → Calls Tryz.prog 171 #[.pointer (some ⟨b, 0, none⟩), .int .i64 (-9223372036854775808)] w fun e w' => e = .returned (.int .i64 (-((z.minus 9223372036854775808).1 : Int))) ∧ ScAt w' b s (z.minus 9223372036854775808).2 ∧ But b w w') := fun w h => bdMinus_any b s z 9223372036854775808 w h hs (by decide) (by decide)
   generalize z.minus 9223372036854775808 = R at *
   obtain ⟨n, y⟩ := R
   simp only at HM hm
   have HN : Hid (GivesV 100 #[.int .i64 (-(n : Int))] ⟨-(n : Int), 0⟩) := number_any _
   go_enter Tryz.func130, Tryz.ntmps130
   go_wp2_with (first | (go_at_call 170; refine (H45.out _ HLa.out.sc).mono ?_; rintro e wb ⟨rfl, nb, hwb⟩; have HLb : Hid (BdL w wb b s x) := (by subst hwb; exact HLa.out.drewN nb); clear hwb) | (go_at_call 170; refine (H33.out _ HL0.out.sc).mono ?_; rintro e wa ⟨rfl, na, hwa⟩; have HLa : Hid (BdL w wa b s x) := (by subst hwa; exact HL0.out.drewN na); clear hwa) | (go_at_call 129; refine (T45.out _ HLb.out.sc).mono ?_; rintro e wt ⟨rfl, hst, hbt⟩; have HLt : Hid (BdL w wt b s z) := HLb.out.call hst hbt; clear hst hbt) | (go_at_call 171; refine (HM.out _ HLt.out.sc).mono ?_; rintro e wc ⟨rfl, hsc, hbc⟩; have HLc : Hid (BdL w wc b s y) := HLt.out.call hsc hbc; clear hsc hbc) | (go_at_call 100; refine (HN.out _).mono ?_; rintro e wd ⟨rfl, hbd⟩; have HLd : Hid (BdL w wd b s y) := HLc.out.below hbd; have c0 := HLd.out.c0; have c1 := HLd.out.c1; have fz := HLd.out.fz; clear hbd))
   obtain ⟨r1, r2⟩ := HLd.out.done (.int .i64 (-(n : Int))) (.int .i64 0)
   exact bodyPost_ret (v := vlV ⟨-(n : Int), 0⟩) (by simp [results, Tryz.results130, go_sem, c0, c1, fz]) rfl ⟨rfl, r1, r2⟩
 ·rw [h33] at H33
  have hx : x.value = (⟨0, 1 + (((x.take 33 33).2.take 49 50).1 : Int)⟩, ((x.take 33 33).2.take 49 50).2) := by unfold Sc.value; rw [h33]; rfl
  rw [hx]
  clear hx h33
  generalize (x.take 33 33).2 = z at *
  have hm := take12 z
  have HM : Hid (∀ w, ScAt w b s z → Calls Tryz.prog 172 #[.pointer (some ⟨b, 0, none⟩), .int .u8 49, .int .u8 50] w fun e w' => e = .returned (.int .i64 ((z.take 49 50).1 : Nat)) ∧ ScAt w' b s (z.take 49 50).2 ∧ But b w w') := fun w h => bdTake_any b s z 49 50 w h hs
  generalize z.take 49 50 = R at *
  obtain ⟨n, y⟩ := R
  simp only at HM hm
  go_enter Tryz.func130, Tryz.ntmps130
  go_wp2_with (first | (go_at_call 170; refine (H33.out _ HL0.out.sc).mono ?_; rintro e wa ⟨rfl, na, hwa⟩; have HLa : Hid (BdL w wa b s x) := (by subst hwa; exact HL0.out.drewN na); clear hwa) | (go_at_call 129; refine (T33.out _ HLa.out.sc).mono ?_; rintro e wt ⟨rfl, hst, hbt⟩; have HLt : Hid (BdL w wt b s z) := HLa.out.call hst hbt; clear hst hbt) | (go_at_call 172; refine (HM.out _ HLt.out.sc).mono ?_; rintro e wc ⟨rfl, hsc, hbc⟩; have HLc : Hid (BdL w wc b s y) := HLt.out.call hsc hbc; have c0 := HLc.out.c0; have c1 := HLc.out.c1; have fz := HLc.out.fz; clear hsc hbc))
  obtain ⟨r1, r2⟩ := HLc.out.done (.int .i64 0) (.int .i64 (1 + (n : Int)))
  exact bodyPost_ret (v := vlV ⟨0, 1 + (n : Int)⟩) (by simp [results, Tryz.results130, go_sem, c0, c1, fz]) rfl ⟨rfl, r1, r2⟩
end Go.Proofs.YtdgmoiflahoihaaGreatDoor
namespace Go.Proofs.YtdgmoiflahoihaaGreatDoor
open Go.RowKit
set_option linter.unusedSimpArgs false
set_option linter.unusedVariables false
abbrev lnV (l : Ln) : Value := .agg #[.int .i64 l.place, .int .i64 l.val.num, .int .i64 l.val.fault]
def lnCell (l : Ln) : List Value := [.int .i64 l.place, .int .i64 l.val.num, .int .i64 l.val.fault]
def lnCells (l : List Ln) : List Value := l.flatMap lnCell
structure BdK (w W : World) (b : Nat) (s : ByteArray) (x : Sc) (v0 v1 v2 : Value) : Prop where
 sc : ScAt W b s x
 g0 : W.cell? ⟨w.heap.size + 1, 0, none⟩ = some v0
 g1 : W.cell? ⟨w.heap.size + 1, 1, none⟩ = some v1
 g2 : W.cell? ⟨w.heap.size + 1, 2, none⟩ = some v2
 gf : ∀ o, W.frozen? ⟨w.heap.size + 1, o, none⟩ = false
 h0 : W.cell? ⟨w.heap.size, 0, none⟩ = some (.int .i64 0)
 h1 : W.cell? ⟨w.heap.size, 1, none⟩ = some (.int .i64 0)
 h2 : W.cell? ⟨w.heap.size, 2, none⟩ = some (.int .i64 0)
 hf : ∀ o, W.frozen? ⟨w.heap.size, o, none⟩ = false
 but : But b w W
 size : w.heap.size + 2 ≤ W.heap.size
 lt : b < w.heap.size
theorem BdK.start {w : World} {b : Nat} {s : ByteArray} {x : Sc} (h : ScAt w b s x) (t t' : TypeId) : BdK w ((w.alloc (.cells #[.int .i64 0, .int .i64 0, .int .i64 0] t)).alloc (.cells #[.int .i64 0, .int .i64 0, .int .i64 0] t')) b s x (.int .i64 0) (.int .i64 0) (.int .i64 0) := by
 refine ⟨(h.alloc _).alloc _, ?_, ?_, ?_, fun o => ?_, ?_, ?_, ?_, fun o => ?_, ((But.refl _ _).alloc _).alloc _, by simp, h.lt⟩
 all_goals simp [go_sem]
theorem BdK.call {w W W' : World} {b : Nat} {s : ByteArray} {x y : Sc} {v0 v1 v2 : Value} (L : BdK w W b s x v0 v1 v2) (h : ScAt W' b s y) (hb : But b W W') : BdK w W' b s y v0 v1 v2 := by
 have hs := L.size
 have hl := L.lt
 have k1 : W'.heap[w.heap.size + 1]? = W.heap[w.heap.size + 1]? := hb.block _ (by omega) (fun e => by cases e; omega)
 have k0 : W'.heap[w.heap.size]? = W.heap[w.heap.size]? := hb.block _ (by omega) (fun e => by cases e; omega)
 exact ⟨h, (World.cell?_of_block (a := ⟨w.heap.size + 1, 0, none⟩) k1).trans L.g0, (World.cell?_of_block (a := ⟨w.heap.size + 1, 1, none⟩) k1).trans L.g1, (World.cell?_of_block (a := ⟨w.heap.size + 1, 2, none⟩) k1).trans L.g2, fun o => (World.frozen?_of_block (a := ⟨w.heap.size + 1, o, none⟩) k1).trans (L.gf o),
  (World.cell?_of_block (a := ⟨w.heap.size, 0, none⟩) k0).trans L.h0, (World.cell?_of_block (a := ⟨w.heap.size, 1, none⟩) k0).trans L.h1, (World.cell?_of_block (a := ⟨w.heap.size, 2, none⟩) k0).trans L.h2, fun o => (World.frozen?_of_block (a := ⟨w.heap.size, o, none⟩) k0).trans (L.hf o), L.but.trans hb, Nat.le_trans hs hb.size, hl⟩
theorem ScAt.setNew {w : World} {b : Nat} {s : ByteArray} {x : Sc} (h : ScAt w b s x) (a : Addr) (u : Value) (ha : a.block ≠ b) : ScAt (w.setCell a u) b s x := h.block (Below.heap_setCell _ _ _ _ (fun e => ha e.symm))
theorem BdK.set0 {w W : World} {b : Nat} {s : ByteArray} {x : Sc} {v0 v1 v2 : Value} (L : BdK w W b s x v0 v1 v2) (u : Value) : BdK w (W.setCell ⟨w.heap.size + 1, 0, none⟩ u) b s x u v1 v2 := by
 obtain ⟨sc, g0, g1, g2, gf, h0, h1, h2, hf, but, size, lt⟩ := L
 refine ⟨sc.setNew _ _ (by simp only; omega), ?_, ?_, ?_, fun o => ?_, ?_, ?_, ?_, fun o => ?_, but.setNew _ _ (by simp), by simpa using size, lt⟩
 all_goals simp [go_sem, g0, g1, g2, gf, h0, h1, h2, hf]
theorem BdK.set12 {w W : World} {b : Nat} {s : ByteArray} {x : Sc} {v0 v1 v2 : Value} (L : BdK w W b s x v0 v1 v2) (u v : Value) : BdK w ((W.setCell ⟨w.heap.size + 1, 1, none⟩ u).setCell ⟨w.heap.size + 1, 2, none⟩ v) b s x v0 u v := by
 obtain ⟨sc, g0, g1, g2, gf, h0, h1, h2, hf, but, size, lt⟩ := L
 refine ⟨(sc.setNew _ _ (by simp only; omega)).setNew _ _ (by simp only; omega), ?_, ?_, ?_, fun o => ?_, ?_, ?_, ?_, fun o => ?_, (but.setNew _ _ (by simp)).setNew _ _ (by simp), by simpa using size, lt⟩
 all_goals simp [go_sem, g0, g1, g2, gf, h0, h1, h2, hf]
theorem BdK.done {w W : World} {b : Nat} {s : ByteArray} {x : Sc} {v0 v1 v2 : Value} (L : BdK w W b s x v0 v1 v2) (u0 u1 u2 : Value) : ScAt (((W.setCell ⟨w.heap.size, 0, none⟩ u0).setCell ⟨w.heap.size, 1, none⟩ u1).setCell ⟨w.heap.size, 2, none⟩ u2) b s x ∧ But b w (((W.setCell ⟨w.heap.size, 0, none⟩ u0).setCell ⟨w.heap.size, 1, none⟩ u1).setCell ⟨w.heap.size, 2, none⟩ u2) := by
 have hl := L.lt
 exact ⟨((L.sc.setNew _ _ (by simp only; omega)).setNew _ _ (by simp only; omega)).setNew _ _ (by simp only; omega), ((L.but.setNew _ _ (Nat.le_refl _)).setNew _ _ (Nat.le_refl _)).setNew _ _ (Nat.le_refl _)⟩
set_option maxRecDepth 10000 in
set_option maxHeartbeats 100000000 in
theorem bdLine_any (b : Nat) (s : ByteArray) (x : Sc) (w : World) (h : ScAt w b s x) (hs : s.size ≤ 100000000) :
  Calls Tryz.prog 97 #[.pointer (some ⟨b, 0, none⟩)] w fun e w' => e = .returned (lnV x.line.1) ∧ ScAt w' b s x.line.2 ∧ But b w w' := by
 have HL0 : Hid (BdK w ((w.alloc (.cells #[.int .i64 0, .int .i64 0, .int .i64 0] 89)).alloc (.cells #[.int .i64 0, .int .i64 0, .int .i64 0] 89)) b s x (.int .i64 0) (.int .i64 0) (.int .i64 0)) := BdK.start h _ _
 clear h
 have HA : Hid (∀ w, ScAt w b s x → Calls Tryz.prog 128 #[.pointer (some ⟨b, 0, none⟩), .int .i64 400] w fun e w' => e = .returned (.int .i64 ((x.number 400).1 : Nat)) ∧ ScAt w' b s (x.number 400).2 ∧ But b w w') := fun w h => bdNumber_any b s x 400 w h hs (by decide) (by decide)
 have HB : Hid (∀ y w, ScAt w b s y → Calls Tryz.prog 129 #[.pointer (some ⟨b, 0, none⟩), .int .u8 58] w fun e w' => e = .returned (.tuple #[]) ∧ ScAt w' b s (y.take 58 58).2 ∧ But b w w') := fun y w h => bdTook_any b s y 58 w h hs
 have HC : Hid (∀ y w, ScAt w b s y → Calls Tryz.prog 130 #[.pointer (some ⟨b, 0, none⟩)] w fun e w' => e = .returned (vlV y.value.1) ∧ ScAt w' b s y.value.2 ∧ But b w w') := fun y w h => bdValue_any b s y w h hs
 have HD : Hid (∀ y w, ScAt w b s y → Calls Tryz.prog 129 #[.pointer (some ⟨b, 0, none⟩), .int .u8 10] w fun e w' => e = .returned (.tuple #[]) ∧ ScAt w' b s (y.take 10 10).2 ∧ But b w w') := fun y w h => bdTook_any b s y 10 w h hs
 have hx : x.line = (⟨((x.number 400).1 : Nat), ((x.number 400).2.take 58 58).2.value.1⟩, (((x.number 400).2.take 58 58).2.value.2.take 10 10).2) := rfl
 rw [hx]
 clear hx
 generalize x.number 400 = p at *
 obtain ⟨n, y⟩ := p
 have HB2 := HB.out y
 have HB : Hid _ := HB2
 generalize (y.take 58 58).2 = z at *
 have HC2 := HC.out z
 have HC : Hid _ := HC2
 generalize z.value = v at *
 obtain ⟨v, u⟩ := v
 have HD2 := HD.out u
 have HD : Hid _ := HD2
 generalize (u.take 10 10).2 = t at *
 simp only at HA HB HC HD
 clear HB2 HC2 HD2
 go_enter Tryz.func97, Tryz.ntmps97
 go_wp2_with (first | (go_at_call 128; refine (HA.out _ HL0.out.sc).mono ?_; rintro e wa ⟨rfl, hsa, hba⟩; have HLa : Hid _ := HL0.out.call hsa hba; have a0 := HLa.out.g0; have af := HLa.out.gf; clear hsa hba) | (go_at_call 129; have HLb : Hid _ := HLa.out.set0 (.int .i64 n); refine (HB.out _ HLb.out.sc).mono ?_; rintro e wb ⟨rfl, hsb, hbb⟩; have HLc : Hid _ := HLb.out.call hsb hbb; clear hsb hbb HLa a0 af) | (go_at_call 130; refine (HC.out _ HLc.out.sc).mono ?_; rintro e wc ⟨rfl, hsc, hbc⟩; have HLd : Hid _ := HLc.out.call hsc hbc; have a0 := HLd.out.g1; have a1 := HLd.out.g2; have af := HLd.out.gf; clear hsc hbc HLc) | (go_at_call 129; have HLe : Hid _ := HLd.out.set12 (.int .i64 v.num) (.int .i64 v.fault); refine (HD.out _ HLe.out.sc).mono ?_; rintro e wd ⟨rfl, hsd, hbd⟩; have HLf : Hid _ := HLe.out.call hsd hbd; clear hsd hbd HLd a0 a1 af; have g0 := HLf.out.g0; have g1 := HLf.out.g1; have g2 := HLf.out.g2; have gf := HLf.out.gf; have h0 := HLf.out.h0; have h1 := HLf.out.h1; have h2 := HLf.out.h2; have hf := HLf.out.hf))
 obtain ⟨r1, r2⟩ := HLf.out.done (.int .i64 n) (.int .i64 v.num) (.int .i64 v.fault)
 exact bodyPost_ret (v := lnV ⟨n, v⟩) (by simp [results, Tryz.results97, go_sem, g0, g1, g2, gf, h0, h1, h2, hf]) rfl ⟨rfl, r1, r2⟩
end Go.Proofs.YtdgmoiflahoihaaGreatDoor
