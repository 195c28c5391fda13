import Derived.Test.YtdgmoiflahoihaaERP
import Derived.Test.YtdgmoiflahoihaaVP

namespace Go.Proofs.Ytdgmoiflahoihaa
open Go.RowKit
set_option linter.unusedSimpArgs false
set_option linter.unusedVariables false
def divV (a b : Int) : Vl := if b = 0 then ⟨0, 2⟩ else vlOf (a.tdiv b)
def remV (a b : Int) : Vl := if b = 0 then ⟨0, 2⟩ else ⟨a.tmod b, 0⟩
def numsV (op a b : Int) : Vl :=
 if op = 4 then vlOf (a + b) else if op = 5 then vlOf (a - b) else if op = 6 then vlOf (a * b)
 else if op = 7 then divV a b else if op = 8 then remV a b
 else if op = 9 then ⟨if a < b then 1 else 0, 0⟩ else if op = 10 then ⟨if a = b then 1 else 0, 0⟩ else ⟨0, 0⟩
def opV (op : Int) (x y : Vl) : Vl := if x.fault ≠ 0 then x else if y.fault ≠ 0 then y else numsV op x.num y.num
def negV (x : Vl) : Vl := if x.fault ≠ 0 then x else vlOf (0 - x.num)
theorem tmod_in {a b : Int} (ha : -9223372036854775808 ≤ a ∧ a ≤ 9223372036854775807) (hb : b ≠ 0) : -9223372036854775808 ≤ a.tmod b ∧ a.tmod b ≤ 9223372036854775807 := by
 rcases Int.le_total 0 a with h | h
 ·have h1 := Int.tmod_nonneg b h
  have h2 : a.tmod b ≤ a := by
   have := Int.natAbs_tmod a b
   have h3 : a.natAbs % b.natAbs ≤ a.natAbs := Nat.mod_le _ _
   omega
  omega
 ·have h1 : a.tmod b ≤ 0 := by
   have := Int.tmod_nonneg b (a := -a) (by omega)
   rw [Int.neg_tmod] at this
   omega
  have h2 : a ≤ a.tmod b := by
   have := Int.natAbs_tmod a b
   have h3 : a.natAbs % b.natAbs ≤ a.natAbs := Nat.mod_le _ _
   omega
  omega
theorem divV_ok (a b : Int) : VlOk (divV a b) := by
 unfold divV
 split
 ·exact ⟨by simp, by simp, by simp⟩
 ·exact vlOf_ok _
theorem remV_ok {a : Int} (b : Int) (ha : -9223372036854775808 ≤ a ∧ a ≤ 9223372036854775807) : VlOk (remV a b) := by
 unfold remV
 split
 ·exact ⟨by simp, by simp, by simp⟩
 ·rename_i h
  exact ⟨tmod_in ha h, by simp, by simp⟩
theorem numsV_ok (op : Int) {a : Int} (b : Int) (ha : -9223372036854775808 ≤ a ∧ a ≤ 9223372036854775807) : VlOk (numsV op a b) := by
 unfold numsV
 split
 ·exact vlOf_ok _
 split
 ·exact vlOf_ok _
 split
 ·exact vlOf_ok _
 split
 ·exact divV_ok a b
 split
 ·exact remV_ok b ha
 split
 ·split <;> exact ⟨by simp, by simp, by simp⟩
 split
 ·split <;> exact ⟨by simp, by simp, by simp⟩
 ·exact ⟨by simp, by simp, by simp⟩
theorem opV_ok (op : Int) {x y : Vl} (hx : VlOk x) (hy : VlOk y) : VlOk (opV op x y) := by
 unfold opV
 split
 ·exact hx
 split
 ·exact hy
 ·exact numsV_ok op _ hx.num
theorem negV_ok {x : Vl} (hx : VlOk x) : VlOk (negV x) := by
 unfold negV
 split
 ·exact hx
 ·exact vlOf_ok _
def opC (c : UInt8) (x y : Vl) : Vl :=
 if x.fault ≠ 0 then x else if y.fault ≠ 0 then y
 else if c == 43 then vlOf (x.num + y.num) else if c == 45 then vlOf (x.num - y.num) else if c == 42 then vlOf (x.num * y.num)
 else if c == 60 then ⟨if x.num < y.num then 1 else 0, 0⟩ else if c == 61 then ⟨if x.num = y.num then 1 else 0, 0⟩
 else if c == 47 then divV x.num y.num else remV x.num y.num
end Go.Proofs.Ytdgmoiflahoihaa
namespace Go.Proofs.Ytdgmoiflahoihaa
open Go.RowKit
set_option linter.unusedSimpArgs false
set_option linter.unusedVariables false
abbrev vlV (v : Vl) : Value := .agg #[.int .i64 v.num, .int .i64 v.fault]
def GivesV (f : Nat) (args : Array Value) (v : Vl) : Prop := ∀ w, Calls Try.prog f args w fun e w' => e = .returned (vlV v) ∧ Below w.heap.size w w'
theorem res_below {w w1 : World} {t : TypeId} (h : Below (w.alloc (.cells #[.int .i64 0, .int .i64 0] t)).heap.size (w.alloc (.cells #[.int .i64 0, .int .i64 0] t)) w1) :
  w1.cell? ⟨w.heap.size, 0, none⟩ = some (.int .i64 0) ∧ w1.cell? ⟨w.heap.size, 1, none⟩ = some (.int .i64 0) ∧ (∀ o, w1.frozen? ⟨w.heap.size, o, none⟩ = false) ∧ Below w.heap.size w w1 := by
 have hlt : w.heap.size < (w.alloc (.cells #[.int .i64 0, .int .i64 0] t)).heap.size := by simp
 refine ⟨?_, ?_, fun o => ?_, ((Below.refl _ _).alloc (Nat.le_refl _) _).trans (h.mono (by simp))⟩
 ·rw [h.cell (p := ⟨w.heap.size, 0, none⟩) hlt]; simp [go_sem]
 ·rw [h.cell (p := ⟨w.heap.size, 1, none⟩) hlt]; simp [go_sem]
 ·rw [h.frozen (p := ⟨w.heap.size, o, none⟩) hlt]; simp [go_sem]
theorem res_set {w w1 : World} (h : Below w.heap.size w w1) (x y : Value) : Below w.heap.size w ((w1.setCell ⟨w.heap.size, 0, none⟩ x).setCell ⟨w.heap.size, 1, none⟩ y) :=
 (h.setCell (Nat.le_refl _) _).setCell (Nat.le_refl _) _
set_option maxHeartbeats 400000 in
theorem number_any (n : Int) : GivesV 113 #[.int .i64 n] ⟨n, 0⟩ := by
 intro w
 go_enter Try.func113, Try.ntmps113
 go_wp2_with fail
 exact bodyPost_ret (v := vlV ⟨n, 0⟩) (by simp [results, Try.results113, go_sem]) rfl ⟨rfl, by exact (Below.refl _ _).alloc (Nat.le_refl _) _⟩
set_option maxHeartbeats 400000 in
theorem fault_any (n : Int) : GivesV 154 #[.int .i64 n] ⟨0, n⟩ := by
 intro w
 go_enter Try.func154, Try.ntmps154
 go_wp2_with fail
 exact bodyPost_ret (v := vlV ⟨0, n⟩) (by simp [results, Try.results154, go_sem]) rfl ⟨rfl, by exact (Below.refl _ _).alloc (Nat.le_refl _) _⟩
set_option maxHeartbeats 1000000 in
theorem add_any (a b : Int) (ha : -9223372036854775808 ≤ a ∧ a ≤ 9223372036854775807) (hb : -9223372036854775808 ≤ b ∧ b ≤ 9223372036854775807) : GivesV 155 #[.int .i64 a, .int .i64 b] (vlOf (a + b)) := by
 intro w
 by_cases h : -9223372036854775808 ≤ a + b ∧ a + b ≤ 9223372036854775807
 ·rw [vlOf_fits h]
  go_enter Try.func155, Try.ntmps155
  go_wp2_with (first | (go_at_call 113; refine (number_any _ _).mono ?_; rintro e w1 ⟨rfl, hb1⟩; obtain ⟨c0, c1, fz, hb2⟩ := res_below hb1; have HB2 : Hid _ := hb2; clear hb1 hb2) | (go_at_call 154; refine (fault_any _ _).mono ?_; rintro e w1 ⟨rfl, hb1⟩; obtain ⟨c0, c1, fz, hb2⟩ := res_below hb1; have HB2 : Hid _ := hb2; clear hb1 hb2))
  all_goals exact bodyPost_ret (v := vlV ⟨a + b, 0⟩) (by simp [results, Try.results155, go_sem, c0, c1, fz]) rfl ⟨rfl, by exact res_set HB2.out _ _⟩
 ·rw [vlOf_not h]
  go_enter Try.func155, Try.ntmps155
  go_wp2_with (first | (go_at_call 113; refine (number_any _ _).mono ?_; rintro e w1 ⟨rfl, hb1⟩; obtain ⟨c0, c1, fz, hb2⟩ := res_below hb1; have HB2 : Hid _ := hb2; clear hb1 hb2) | (go_at_call 154; refine (fault_any _ _).mono ?_; rintro e w1 ⟨rfl, hb1⟩; obtain ⟨c0, c1, fz, hb2⟩ := res_below hb1; have HB2 : Hid _ := hb2; clear hb1 hb2))
  all_goals exact bodyPost_ret (v := vlV ⟨0, 1⟩) (by simp [results, Try.results155, go_sem, c0, c1, fz]) rfl ⟨rfl, by exact res_set HB2.out _ _⟩
set_option maxHeartbeats 1000000 in
theorem sub_any (a b : Int) (ha : -9223372036854775808 ≤ a ∧ a ≤ 9223372036854775807) (hb : -9223372036854775808 ≤ b ∧ b ≤ 9223372036854775807) : GivesV 140 #[.int .i64 a, .int .i64 b] (vlOf (a - b)) := by
 intro w
 by_cases h : -9223372036854775808 ≤ a - b ∧ a - b ≤ 9223372036854775807
 ·rw [vlOf_fits h]
  go_enter Try.func140, Try.ntmps140
  go_wp2_with (first | (go_at_call 113; refine (number_any _ _).mono ?_; rintro e w1 ⟨rfl, hb1⟩; obtain ⟨c0, c1, fz, hb2⟩ := res_below hb1; have HB2 : Hid _ := hb2; clear hb1 hb2) | (go_at_call 154; refine (fault_any _ _).mono ?_; rintro e w1 ⟨rfl, hb1⟩; obtain ⟨c0, c1, fz, hb2⟩ := res_below hb1; have HB2 : Hid _ := hb2; clear hb1 hb2))
  all_goals exact bodyPost_ret (v := vlV ⟨a - b, 0⟩) (by simp [results, Try.results140, go_sem, c0, c1, fz]) rfl ⟨rfl, by exact res_set HB2.out _ _⟩
 ·rw [vlOf_not h]
  go_enter Try.func140, Try.ntmps140
  go_wp2_with (first | (go_at_call 113; refine (number_any _ _).mono ?_; rintro e w1 ⟨rfl, hb1⟩; obtain ⟨c0, c1, fz, hb2⟩ := res_below hb1; have HB2 : Hid _ := hb2; clear hb1 hb2) | (go_at_call 154; refine (fault_any _ _).mono ?_; rintro e w1 ⟨rfl, hb1⟩; obtain ⟨c0, c1, fz, hb2⟩ := res_below hb1; have HB2 : Hid _ := hb2; clear hb1 hb2))
  all_goals exact bodyPost_ret (v := vlV ⟨0, 1⟩) (by simp [results, Try.results140, go_sem, c0, c1, fz]) rfl ⟨rfl, by exact res_set HB2.out _ _⟩
end Go.Proofs.Ytdgmoiflahoihaa
namespace Go.Proofs.Ytdgmoiflahoihaa
open Go.RowKit
set_option linter.unusedSimpArgs false
set_option linter.unusedVariables false
set_option maxHeartbeats 400000 in
theorem truth_any (b : Bool) : GivesV 159 #[.bool b] ⟨if b then 1 else 0, 0⟩ := by
 intro w
 cases b
 all_goals go_enter Try.func159, Try.ntmps159
 ·go_wp2_with (first | (go_at_call 113; refine (number_any _ _).mono ?_; rintro e w1 ⟨rfl, hb1⟩; obtain ⟨c0, c1, fz, hb2⟩ := res_below hb1; have HB2 : Hid _ := hb2; clear hb1 hb2))
  exact bodyPost_ret (v := vlV ⟨0, 0⟩) (by simp [results, Try.results159, go_sem, c0, c1, fz]) rfl ⟨rfl, by exact res_set HB2.out _ _⟩
 ·go_wp2_with (first | (go_at_call 113; refine (number_any _ _).mono ?_; rintro e w1 ⟨rfl, hb1⟩; obtain ⟨c0, c1, fz, hb2⟩ := res_below hb1; have HB2 : Hid _ := hb2; clear hb1 hb2))
  exact bodyPost_ret (v := vlV ⟨1, 0⟩) (by simp [results, Try.results159, go_sem, c0, c1, fz]) rfl ⟨rfl, by exact res_set HB2.out _ _⟩
theorem res_below1 {w w1 : World} {t : TypeId} {o1 : Obj} (h : Below ((w.alloc o1).alloc (.cells #[.int .i64 0, .int .i64 0] t)).heap.size ((w.alloc o1).alloc (.cells #[.int .i64 0, .int .i64 0] t)) w1) :
  w1.cell? ⟨w.heap.size + 1, 0, none⟩ = some (.int .i64 0) ∧ w1.cell? ⟨w.heap.size + 1, 1, none⟩ = some (.int .i64 0) ∧ (∀ o, w1.frozen? ⟨w.heap.size + 1, o, none⟩ = false) ∧ Below w.heap.size w w1 := by
 obtain ⟨h1, h2, h3, h4⟩ := res_below h
 rw [show (w.alloc o1).heap.size = w.heap.size + 1 by simp] at *
 exact ⟨h1, h2, h3, ((Below.refl _ _).alloc (Nat.le_refl _) _).trans (h4.mono (by omega))⟩
theorem res_below2 {w w1 : World} {t : TypeId} {o1 o2 : Obj} (h : Below (((w.alloc o1).alloc o2).alloc (.cells #[.int .i64 0, .int .i64 0] t)).heap.size (((w.alloc o1).alloc o2).alloc (.cells #[.int .i64 0, .int .i64 0] t)) w1) :
  w1.cell? ⟨w.heap.size + 1 + 1, 0, none⟩ = some (.int .i64 0) ∧ w1.cell? ⟨w.heap.size + 1 + 1, 1, none⟩ = some (.int .i64 0) ∧ (∀ o, w1.frozen? ⟨w.heap.size + 1 + 1, o, none⟩ = false) ∧ Below w.heap.size w w1 := by
 obtain ⟨h1, h2, h3, h4⟩ := res_below1 h
 rw [show (w.alloc o1).heap.size = w.heap.size + 1 by simp] at *
 exact ⟨h1, h2, h3, ((Below.refl _ _).alloc (Nat.le_refl _) _).trans (h4.mono (by omega))⟩
theorem rv_bool {a b : Bool} (h : a = b) : Ending.returned (Value.bool a) = Ending.returned (Value.bool b) := by rw [h]
theorem fits_neg {p : Int} {q : Prop} [Decidable q] (h0 : p ≤ 0) (h : q ↔ -9223372036854775808 ≤ p) : decide q = fits p := by
 rw [Bool.eq_iff_iff, fits_iff, decide_eq_true_iff, h]; omega
theorem fits_pos {p : Int} {q : Prop} [Decidable q] (h0 : 0 ≤ p) (h : q ↔ p ≤ 9223372036854775807) : decide q = fits p := by
 rw [Bool.eq_iff_iff, fits_iff, decide_eq_true_iff, h]; omega
theorem wrap_in (n : Int) (h : -9223372036854775808 ≤ n ∧ n ≤ 9223372036854775807) : wrap64 n = n := by unfold wrap64; omega
theorem quo_nn {a b c : Int} (ha : 0 < a) (hb : 0 ≤ b) (hc : 0 ≤ c) : 0 ≤ c.tdiv a ∧ c.tdiv a ≤ c ∧ (b ≤ c.tdiv a ↔ b * a ≤ c) := by
 rw [Int.tdiv_eq_ediv_of_nonneg hc]
 exact ⟨Int.ediv_nonneg hc (by omega), Int.ediv_le_self _ hc, Int.le_ediv_iff_mul_le ha⟩
set_option maxHeartbeats 1000000 in
theorem productFits_any (a b : Int) (ha : -9223372036854775808 ≤ a ∧ a ≤ 9223372036854775807) (hb : -9223372036854775808 ≤ b ∧ b ≤ 9223372036854775807) (w : World) :
  Calls Try.prog 166 #[.int .i64 a, .int .i64 b] w fun e w' => e = .returned (.bool (fits (a * b))) ∧ w' = w := by
 rcases Int.lt_trichotomy a 0 with a0 | a0 | a0
 ·rcases Int.lt_trichotomy b 0 with b0 | b0 | b0
  ·go_enter Try.func166, Try.ntmps166
   go_wp2_with fail
   go_ret
   refine ⟨rv_bool ?_, rfl⟩
   have hq := quo_nn (a := -a) (b := -b) (c := 9223372036854775807) (by omega) (by omega) (by omega)
   rw [show (9223372036854775807 : Int).tdiv a = -((9223372036854775807 : Int).tdiv (-a)) by rw [Int.tdiv_neg]; omega]
   obtain ⟨q1, q2, q3⟩ := hq
   rw [wrap_in _ (by omega)]
   refine fits_pos ?_ ?_
   ·exact Int.mul_nonneg_of_nonpos_of_nonpos (by omega) (by omega)
   ·rw [Int.neg_mul_neg] at q3
    rw [Int.mul_comm] at q3
    omega
  ·subst b0
   go_enter Try.func166, Try.ntmps166
   go_wp2_with fail
   go_ret
   exact ⟨rv_bool (by simp [fits]), rfl⟩
  ·go_enter Try.func166, Try.ntmps166
   go_wp2_with fail
   go_ret
   refine ⟨rv_bool ?_, rfl⟩
   obtain ⟨q1, q2, q3⟩ := quo_nn (a := b) (b := -a) (c := 9223372036854775808) (by omega) (by omega) (by omega)
   rw [wrap_in _ (by omega)]
   rw [Int.neg_mul] at q3
   exact fits_neg (Int.mul_nonpos_of_nonpos_of_nonneg (by omega) (by omega)) (by omega)
 ·subst a0
  go_enter Try.func166, Try.ntmps166
  go_wp2_with fail
  go_ret
  exact ⟨rv_bool (by simp [fits]), rfl⟩
 ·rcases Int.lt_trichotomy b 0 with b0 | b0 | b0
  ·go_enter Try.func166, Try.ntmps166
   go_wp2_with fail
   go_ret
   refine ⟨rv_bool ?_, rfl⟩
   obtain ⟨q1, q2, q3⟩ := quo_nn (a := a) (b := -b) (c := 9223372036854775808) (by omega) (by omega) (by omega)
   rw [wrap_in _ (by omega)]
   rw [Int.neg_mul, Int.mul_comm b a] at q3
   exact fits_neg (Int.mul_nonpos_of_nonneg_of_nonpos (by omega) (by omega)) (by omega)
  ·subst b0
   go_enter Try.func166, Try.ntmps166
   go_wp2_with fail
   go_ret
   exact ⟨rv_bool (by simp [fits]), rfl⟩
  ·have hp : 0 ≤ a * b := Int.mul_nonneg (by omega) (by omega)
   have hq := Int.le_ediv_iff_mul_le (a := a) (b := 9223372036854775807) b0
   go_enter Try.func166, Try.ntmps166
   go_wp2_with fail
   go_ret
   refine ⟨rv_bool ?_, rfl⟩
   exact fits_pos hp Iff.rfl
theorem tdiv_out {a b : Int} (ha : -9223372036854775808 ≤ a ∧ a ≤ 9223372036854775807) (hb : -9223372036854775808 ≤ b ∧ b ≤ 9223372036854775807) (b0 : ¬ b = 0) (h : ¬ (-9223372036854775808 ≤ a.tdiv b ∧ a.tdiv b ≤ 9223372036854775807)) : a = -9223372036854775808 ∧ b = -1 := by
 have h1 : (a.tdiv b).natAbs = a.natAbs / b.natAbs := Int.natAbs_tdiv a b
 have h2 : a.natAbs / b.natAbs ≤ a.natAbs := Nat.div_le_self _ _
 by_cases hb1 : b.natAbs = 1
 ·by_cases hb2 : b = 1
  ·subst hb2; simp at h; omega
  ·have : b = -1 := by omega
   subst this
   simp at h
   omega
 ·have h3 : a.natAbs / b.natAbs ≤ a.natAbs / 2 := Nat.div_le_div_left (by omega) (by omega)
  omega
set_option maxHeartbeats 1000000 in
theorem div_any (a b : Int) (ha : -9223372036854775808 ≤ a ∧ a ≤ 9223372036854775807) (hb : -9223372036854775808 ≤ b ∧ b ≤ 9223372036854775807) : GivesV 157 #[.int .i64 a, .int .i64 b] (divV a b) := by
 intro w
 by_cases b0 : b = 0
 ·subst b0
  have hd : divV a 0 = ⟨0, 2⟩ := rfl
  rw [hd]
  go_enter Try.func157, Try.ntmps157
  go_wp2_with (first | (go_at_call 113; refine (number_any _ _).mono ?_; rintro e w1 ⟨rfl, hb1⟩; obtain ⟨c0, c1, fz, hb2⟩ := res_below hb1; have HB2 : Hid _ := hb2; clear hb1 hb2) | (go_at_call 154; refine (fault_any _ _).mono ?_; rintro e w1 ⟨rfl, hb1⟩; obtain ⟨c0, c1, fz, hb2⟩ := res_below hb1; have HB2 : Hid _ := hb2; clear hb1 hb2))
  exact bodyPost_ret (v := vlV ⟨0, 2⟩) (by simp [results, Try.results157, go_sem, c0, c1, fz]) rfl ⟨rfl, by exact res_set HB2.out _ _⟩
 ·by_cases h : -9223372036854775808 ≤ a.tdiv b ∧ a.tdiv b ≤ 9223372036854775807
  ·have hd : divV a b = ⟨a.tdiv b, 0⟩ := by unfold divV; rw [if_neg b0, vlOf_fits h]
   rw [hd]
   by_cases a1 : a = -9223372036854775808
   ·have b1 : ¬ b = -1 := by rintro rfl; subst a1; exact absurd h (by decide)
    have ta : (a == -9223372036854775808) = true := by simpa using a1
    have tb : (b == -1) = false := by simpa using b1
    have t0 : (b == 0) = false := by simpa using b0
    clear a1
    go_enter Try.func157, Try.ntmps157
    go_wp2_with (first | (go_at_call 113; refine (number_any _ _).mono ?_; rintro e w1 ⟨rfl, hb1⟩; obtain ⟨c0, c1, fz, hb2⟩ := res_below hb1; have HB2 : Hid _ := hb2; clear hb1 hb2) | (go_at_call 154; refine (fault_any _ _).mono ?_; rintro e w1 ⟨rfl, hb1⟩; obtain ⟨c0, c1, fz, hb2⟩ := res_below hb1; have HB2 : Hid _ := hb2; clear hb1 hb2))
    exact bodyPost_ret (v := vlV ⟨a.tdiv b, 0⟩) (by simp [results, Try.results157, go_sem, c0, c1, fz]) rfl ⟨rfl, by exact res_set HB2.out _ _⟩
   ·have ta : (a == -9223372036854775808) = false := by simpa using a1
    have t0 : (b == 0) = false := by simpa using b0
    go_enter Try.func157, Try.ntmps157
    go_wp2_with (first | (go_at_call 113; refine (number_any _ _).mono ?_; rintro e w1 ⟨rfl, hb1⟩; obtain ⟨c0, c1, fz, hb2⟩ := res_below hb1; have HB2 : Hid _ := hb2; clear hb1 hb2) | (go_at_call 154; refine (fault_any _ _).mono ?_; rintro e w1 ⟨rfl, hb1⟩; obtain ⟨c0, c1, fz, hb2⟩ := res_below hb1; have HB2 : Hid _ := hb2; clear hb1 hb2))
    exact bodyPost_ret (v := vlV ⟨a.tdiv b, 0⟩) (by simp [results, Try.results157, go_sem, c0, c1, fz]) rfl ⟨rfl, by exact res_set HB2.out _ _⟩
  ·have hd : divV a b = ⟨0, 1⟩ := by unfold divV; rw [if_neg b0, vlOf_not h]
   rw [hd]
   obtain ⟨rfl, rfl⟩ := tdiv_out ha hb b0 h
   go_enter Try.func157, Try.ntmps157
   go_wp2_with (first | (go_at_call 113; refine (number_any _ _).mono ?_; rintro e w1 ⟨rfl, hb1⟩; obtain ⟨c0, c1, fz, hb2⟩ := res_below hb1; have HB2 : Hid _ := hb2; clear hb1 hb2) | (go_at_call 154; refine (fault_any _ _).mono ?_; rintro e w1 ⟨rfl, hb1⟩; obtain ⟨c0, c1, fz, hb2⟩ := res_below hb1; have HB2 : Hid _ := hb2; clear hb1 hb2))
   exact bodyPost_ret (v := vlV ⟨0, 1⟩) (by simp [results, Try.results157, go_sem, c0, c1, fz]) rfl ⟨rfl, by exact res_set HB2.out _ _⟩
set_option maxHeartbeats 1000000 in
theorem rem_any (a b : Int) (ha : -9223372036854775808 ≤ a ∧ a ≤ 9223372036854775807) (hb : -9223372036854775808 ≤ b ∧ b ≤ 9223372036854775807) : GivesV 158 #[.int .i64 a, .int .i64 b] (remV a b) := by
 intro w
 by_cases b0 : b = 0
 ·subst b0
  have hd : remV a 0 = ⟨0, 2⟩ := rfl
  rw [hd]
  go_enter Try.func158, Try.ntmps158
  go_wp2_with (first | (go_at_call 113; refine (number_any _ _).mono ?_; rintro e w1 ⟨rfl, hb1⟩; obtain ⟨c0, c1, fz, hb2⟩ := res_below hb1; have HB2 : Hid _ := hb2; clear hb1 hb2) | (go_at_call 154; refine (fault_any _ _).mono ?_; rintro e w1 ⟨rfl, hb1⟩; obtain ⟨c0, c1, fz, hb2⟩ := res_below hb1; have HB2 : Hid _ := hb2; clear hb1 hb2))
  exact bodyPost_ret (v := vlV ⟨0, 2⟩) (by simp [results, Try.results158, go_sem, c0, c1, fz]) rfl ⟨rfl, by exact res_set HB2.out _ _⟩
 ·have hd : remV a b = ⟨a.tmod b, 0⟩ := by unfold remV; rw [if_neg b0]
  rw [hd]
  by_cases b1 : b = -1
  ·subst b1
   have h0 : a.tmod (-1) = 0 := by simp
   rw [h0]
   go_enter Try.func158, Try.ntmps158
   go_wp2_with (first | (go_at_call 113; refine (number_any _ _).mono ?_; rintro e w1 ⟨rfl, hb1⟩; obtain ⟨c0, c1, fz, hb2⟩ := res_below hb1; have HB2 : Hid _ := hb2; clear hb1 hb2) | (go_at_call 154; refine (fault_any _ _).mono ?_; rintro e w1 ⟨rfl, hb1⟩; obtain ⟨c0, c1, fz, hb2⟩ := res_below hb1; have HB2 : Hid _ := hb2; clear hb1 hb2))
   exact bodyPost_ret (v := vlV ⟨0, 0⟩) (by simp [results, Try.results158, go_sem, c0, c1, fz]) rfl ⟨rfl, by exact res_set HB2.out _ _⟩
  ·have hm := tmod_in ha b0
   go_enter Try.func158, Try.ntmps158
   go_wp2_with (first | (go_at_call 113; refine (number_any _ _).mono ?_; rintro e w1 ⟨rfl, hb1⟩; obtain ⟨c0, c1, fz, hb2⟩ := res_below hb1; have HB2 : Hid _ := hb2; clear hb1 hb2) | (go_at_call 154; refine (fault_any _ _).mono ?_; rintro e w1 ⟨rfl, hb1⟩; obtain ⟨c0, c1, fz, hb2⟩ := res_below hb1; have HB2 : Hid _ := hb2; clear hb1 hb2))
   exact bodyPost_ret (v := vlV ⟨a.tmod b, 0⟩) (by simp [results, Try.results158, go_sem, c0, c1, fz]) rfl ⟨rfl, by exact res_set HB2.out _ _⟩
set_option maxHeartbeats 1000000 in
theorem mul_any (a b : Int) (ha : -9223372036854775808 ≤ a ∧ a ≤ 9223372036854775807) (hb : -9223372036854775808 ≤ b ∧ b ≤ 9223372036854775807) : GivesV 156 #[.int .i64 a, .int .i64 b] (vlOf (a * b)) := by
 intro w
 generalize hv : vlOf (a * b) = v
 unfold vlOf at hv
 have HF : Hid (fits (a * b) = true ↔ -9223372036854775808 ≤ a * b ∧ a * b ≤ 9223372036854775807) := fits_iff (a * b)
 cases hf : fits (a * b)
 ·rw [hf] at hv
  subst hv
  go_enter Try.func156, Try.ntmps156
  go_wp2_with (first | (go_at_call 166; refine (productFits_any a b ha hb _).mono ?_; rw [hf]; rintro e w' ⟨rfl, rfl⟩) | (go_at_call 113; refine (number_any _ _).mono ?_; rintro e w1 ⟨rfl, hb1⟩; obtain ⟨c0, c1, fz, hb2⟩ := res_below hb1; have HB2 : Hid _ := hb2; clear hb1 hb2) | (go_at_call 154; refine (fault_any _ _).mono ?_; rintro e w1 ⟨rfl, hb1⟩; obtain ⟨c0, c1, fz, hb2⟩ := res_below hb1; have HB2 : Hid _ := hb2; clear hb1 hb2))
  exact bodyPost_ret (v := vlV ⟨0, 1⟩) (by simp [results, Try.results156, go_sem, c0, c1, fz]) rfl ⟨rfl, by exact res_set HB2.out _ _⟩
 ·have hr := HF.out.mp hf
  rw [hf] at hv
  subst hv
  go_enter Try.func156, Try.ntmps156
  go_wp2_with (first | (go_at_call 166; refine (productFits_any a b ha hb _).mono ?_; rw [hf]; rintro e w' ⟨rfl, rfl⟩) | (go_at_call 113; refine (number_any _ _).mono ?_; rintro e w1 ⟨rfl, hb1⟩; obtain ⟨c0, c1, fz, hb2⟩ := res_below hb1; have HB2 : Hid _ := hb2; clear hb1 hb2) | (go_at_call 154; refine (fault_any _ _).mono ?_; rintro e w1 ⟨rfl, hb1⟩; obtain ⟨c0, c1, fz, hb2⟩ := res_below hb1; have HB2 : Hid _ := hb2; clear hb1 hb2))
  exact bodyPost_ret (v := vlV ⟨a * b, 0⟩) (by simp [results, Try.results156, go_sem, c0, c1, fz]) rfl ⟨rfl, by exact res_set HB2.out _ _⟩
set_option maxHeartbeats 1000000 in
theorem ofNumbers_any (op a b : Int) (ha : -9223372036854775808 ≤ a ∧ a ≤ 9223372036854775807) (hb : -9223372036854775808 ≤ b ∧ b ≤ 9223372036854775807) : GivesV 141 #[.int .i64 op, .int .i64 a, .int .i64 b] (numsV op a b) := by
 intro w
 have hA := add_any a b ha hb
 have hS := sub_any a b ha hb
 have hM := mul_any a b ha hb
 have hD := div_any a b ha hb
 have hR := rem_any a b ha hb
 have hL := truth_any (decide (a < b))
 have hE := truth_any (a == b)
 have hN : numsV op a b = if op = 4 then vlOf (a + b) else if op = 5 then vlOf (a - b) else if op = 6 then vlOf (a * b)
 else if op = 7 then divV a b else if op = 8 then remV a b
 else if op = 9 then ⟨if decide (a < b) then 1 else 0, 0⟩ else if op = 10 then ⟨if (a == b) then 1 else 0, 0⟩ else ⟨0, 0⟩ := by
  unfold numsV; simp
 generalize hv : numsV op a b = v at *
 generalize vlOf (a + b) = va at *
 generalize vlOf (a - b) = vs at *
 generalize vlOf (a * b) = vm at *
 generalize divV a b = vd at *
 generalize remV a b = vr at *
 have HA : Hid _ := hA
 have HS : Hid _ := hS
 have HM : Hid _ := hM
 have HD : Hid _ := hD
 have HR : Hid _ := hR
 have HL : Hid _ := hL
 have HE : Hid _ := hE
 clear hA hS hM hD hR hL hE hv
 by_cases o4 : op = 4
 ·subst o4
  have e4 : va = v := by rw [hN]; simp
  clear hN
  subst e4
  go_enter Try.func141, Try.ntmps141
  go_wp2_with (first | (go_at_call 155; refine (HA.out _).mono ?_; rintro e w1 ⟨rfl, hb1⟩; obtain ⟨c0, c1, fz, hb2⟩ := res_below hb1; have HB2 : Hid _ := hb2; clear hb1 hb2))
  exact bodyPost_ret (v := vlV va) (by simp [results, Try.results141, go_sem, c0, c1, fz]) rfl ⟨rfl, by exact res_set HB2.out _ _⟩
 by_cases o5 : op = 5
 ·subst o5
  have e4 : vs = v := by rw [hN]; simp
  clear hN
  subst e4
  go_enter Try.func141, Try.ntmps141
  go_wp2_with (first | (go_at_call 140; refine (HS.out _).mono ?_; rintro e w1 ⟨rfl, hb1⟩; obtain ⟨c0, c1, fz, hb2⟩ := res_below hb1; have HB2 : Hid _ := hb2; clear hb1 hb2))
  exact bodyPost_ret (v := vlV vs) (by simp [results, Try.results141, go_sem, c0, c1, fz]) rfl ⟨rfl, by exact res_set HB2.out _ _⟩
 by_cases o6 : op = 6
 ·subst o6
  have e4 : vm = v := by rw [hN]; simp
  clear hN
  subst e4
  go_enter Try.func141, Try.ntmps141
  go_wp2_with (first | (go_at_call 156; refine (HM.out _).mono ?_; rintro e w1 ⟨rfl, hb1⟩; obtain ⟨c0, c1, fz, hb2⟩ := res_below hb1; have HB2 : Hid _ := hb2; clear hb1 hb2))
  exact bodyPost_ret (v := vlV vm) (by simp [results, Try.results141, go_sem, c0, c1, fz]) rfl ⟨rfl, by exact res_set HB2.out _ _⟩
 by_cases o7 : op = 7
 ·subst o7
  have e4 : vd = v := by rw [hN]; simp
  clear hN
  subst e4
  go_enter Try.func141, Try.ntmps141
  go_wp2_with (first | (go_at_call 157; refine (HD.out _).mono ?_; rintro e w1 ⟨rfl, hb1⟩; obtain ⟨c0, c1, fz, hb2⟩ := res_below hb1; have HB2 : Hid _ := hb2; clear hb1 hb2))
  exact bodyPost_ret (v := vlV vd) (by simp [results, Try.results141, go_sem, c0, c1, fz]) rfl ⟨rfl, by exact res_set HB2.out _ _⟩
 by_cases o8 : op = 8
 ·subst o8
  have e4 : vr = v := by rw [hN]; simp
  clear hN
  subst e4
  go_enter Try.func141, Try.ntmps141
  go_wp2_with (first | (go_at_call 158; refine (HR.out _).mono ?_; rintro e w1 ⟨rfl, hb1⟩; obtain ⟨c0, c1, fz, hb2⟩ := res_below hb1; have HB2 : Hid _ := hb2; clear hb1 hb2))
  exact bodyPost_ret (v := vlV vr) (by simp [results, Try.results141, go_sem, c0, c1, fz]) rfl ⟨rfl, by exact res_set HB2.out _ _⟩
 by_cases o9 : op = 9
 ·subst o9
  have e4 : (⟨if decide (a < b) then 1 else 0, 0⟩ : Vl) = v := by rw [hN]; simp
  clear hN
  have HX := HL.out
  rw [e4] at HX
  have HXX : Hid (GivesV 159 _ v) := HX
  clear e4 HX HL
  go_enter Try.func141, Try.ntmps141
  go_wp2_with (first | (go_at_call 159; refine (HXX.out _).mono ?_; rintro e w1 ⟨rfl, hb1⟩; obtain ⟨c0, c1, fz, hb2⟩ := res_below hb1; have HB2 : Hid _ := hb2; clear hb1 hb2))
  exact bodyPost_ret (v := vlV v) (by simp [results, Try.results141, go_sem, c0, c1, fz]) rfl ⟨rfl, by exact res_set HB2.out _ _⟩
 by_cases o10 : op = 10
 ·subst o10
  have e4 : (⟨if (a == b) then 1 else 0, 0⟩ : Vl) = v := by rw [hN]; simp
  clear hN
  have HX := HE.out
  rw [e4] at HX
  have HXX : Hid (GivesV 159 _ v) := HX
  clear e4 HX HE
  go_enter Try.func141, Try.ntmps141
  go_wp2_with (first | (go_at_call 159; refine (HXX.out _).mono ?_; rintro e w1 ⟨rfl, hb1⟩; obtain ⟨c0, c1, fz, hb2⟩ := res_below hb1; have HB2 : Hid _ := hb2; clear hb1 hb2))
  exact bodyPost_ret (v := vlV v) (by simp [results, Try.results141, go_sem, c0, c1, fz]) rfl ⟨rfl, by exact res_set HB2.out _ _⟩
 have e4 : (⟨0, 0⟩ : Vl) = v := by rw [hN]; simp [o4, o5, o6, o7, o8, o9, o10]
 subst e4
 clear hN
 have t4 : (op == 4) = false := by simpa using o4
 have t5 : (op == 5) = false := by simpa using o5
 have t6 : (op == 6) = false := by simpa using o6
 have t7 : (op == 7) = false := by simpa using o7
 have t8 : (op == 8) = false := by simpa using o8
 have t9 : (op == 9) = false := by simpa using o9
 have t10 : (op == 10) = false := by simpa using o10
 go_enter Try.func141, Try.ntmps141
 go_wp2_with (first | (go_at_call 113; refine (number_any _ _).mono ?_; rintro e w1 ⟨rfl, hb1⟩; obtain ⟨c0, c1, fz, hb2⟩ := res_below hb1; have HB2 : Hid _ := hb2; clear hb1 hb2))
 exact bodyPost_ret (v := vlV ⟨0, 0⟩) (by simp [results, Try.results141, go_sem, c0, c1, fz]) rfl ⟨rfl, by exact res_set HB2.out _ _⟩
set_option maxHeartbeats 1000000 in
theorem of_any (op : Int) (x y : Vl) (hx : VlOk x) (hy : VlOk y) : GivesV 117 #[.int .i64 op, vlV x, vlV y] (opV op x y) := by
 intro w
 have hN := ofNumbers_any op x.num y.num hx.num hy.num
 have hV : opV op x y = if x.fault ≠ 0 then x else if y.fault ≠ 0 then y else numsV op x.num y.num := rfl
 generalize numsV op x.num y.num = vn at *
 generalize opV op x y = v at *
 obtain ⟨xn, xf⟩ := x
 obtain ⟨yn, yf⟩ := y
 simp only at *
 have HN : Hid _ := hN
 clear hN hx hy
 by_cases x0 : xf = 0
 ·subst x0
  by_cases y0 : yf = 0
  ·subst y0
   have e : vn = v := by rw [hV]; simp
   subst e
   clear hV
   go_enter Try.func117, Try.ntmps117
   go_wp2_with (first | (go_at_call 141; refine (HN.out _).mono ?_; rintro e w1 ⟨rfl, hb1⟩; obtain ⟨c0, c1, fz, hb2⟩ := res_below2 hb1; have HB2 : Hid _ := hb2; clear hb1 hb2))
   exact bodyPost_ret (v := vlV vn) (by simp [results, Try.results117, go_sem, c0, c1, fz]) rfl ⟨rfl, (HB2.out.setCell (by simp only; omega) _).setCell (by simp only; omega) _⟩
  ·have e : (⟨yn, yf⟩ : Vl) = v := by rw [hV]; simp [y0]
   subst e
   clear hV HN
   have ty : (yf == 0) = false := by simpa using y0
   go_enter Try.func117, Try.ntmps117
   go_wp2_with fail
   exact bodyPost_ret (v := vlV ⟨yn, yf⟩) (by simp [results, Try.results117, go_sem]) rfl ⟨rfl, by exact (((Below.refl _ _).alloc (Nat.le_refl _) _).alloc (by simp) _).alloc (by simp; omega) _⟩
 ·have e : (⟨xn, xf⟩ : Vl) = v := by rw [hV]; simp [x0]
  subst e
  clear hV HN
  have tx : (xf == 0) = false := by simpa using x0
  go_enter Try.func117, Try.ntmps117
  go_wp2_with fail
  exact bodyPost_ret (v := vlV ⟨xn, xf⟩) (by simp [results, Try.results117, go_sem]) rfl ⟨rfl, by exact (((Below.refl _ _).alloc (Nat.le_refl _) _).alloc (by simp) _).alloc (by simp; omega) _⟩
set_option maxHeartbeats 1000000 in
theorem neg_any (x : Vl) (hx : VlOk x) : GivesV 114 #[vlV x] (negV x) := by
 intro w
 have hN := sub_any 0 x.num (by omega) hx.num
 have hV : negV x = if x.fault ≠ 0 then x else vlOf (0 - x.num) := rfl
 generalize vlOf (0 - x.num) = vn at *
 generalize negV x = v at *
 obtain ⟨xn, xf⟩ := x
 simp only at *
 have HN : Hid _ := hN
 clear hN hx
 by_cases x0 : xf = 0
 ·subst x0
  have e : vn = v := by rw [hV]; simp
  subst e
  clear hV
  go_enter Try.func114, Try.ntmps114
  go_wp2_with (first | (go_at_call 140; refine (HN.out _).mono ?_; rintro e w1 ⟨rfl, hb1⟩; obtain ⟨c0, c1, fz, hb2⟩ := res_below1 hb1; have HB2 : Hid _ := hb2; clear hb1 hb2))
  exact bodyPost_ret (v := vlV vn) (by simp [results, Try.results114, go_sem, c0, c1, fz]) rfl ⟨rfl, (HB2.out.setCell (by simp only; omega) _).setCell (by simp only; omega) _⟩
 ·have e : (⟨xn, xf⟩ : Vl) = v := by rw [hV]; simp [x0]
  subst e
  clear hV HN
  have tx : (xf == 0) = false := by simpa using x0
  go_enter Try.func114, Try.ntmps114
  go_wp2_with fail
  exact bodyPost_ret (v := vlV ⟨xn, xf⟩) (by simp [results, Try.results114, go_sem]) rfl ⟨rfl, by exact ((Below.refl _ _).alloc (Nat.le_refl _) _).alloc (by simp) _⟩
end Go.Proofs.Ytdgmoiflahoihaa
