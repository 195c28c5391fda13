import Derived.Test.YtdgmoiflahoihaaEROp

namespace Go.Proofs.Ytdgmoiflahoihaa
open Go.RowKit
set_option linter.unusedSimpArgs false
set_option linter.unusedVariables false
theorem added_is (a b : Int) (ha : -9223372036854775808 ≤ a ∧ a ≤ 9223372036854775807) (hb : -9223372036854775808 ≤ b ∧ b ≤ 9223372036854775807) (w : World) :
  Calls Try.prog 118 #[.int .i64 a, .int .i64 b] w fun e w' => ∃ v, e = .returned (.tuple #[.int .i64 v, .bool (fits (a + b))]) ∧ (fits (a + b) = true → v = a + b) ∧ w' = w := by
 refine (added_any a b ha hb w).mono ?_
 rintro e w' ⟨rfl, rfl⟩
 exact ⟨_, rfl, fun h => wrap_in _ ((fits_iff _).mp h), rfl⟩
theorem taken_is (a b : Int) (ha : -9223372036854775808 ≤ a ∧ a ≤ 9223372036854775807) (hb : -9223372036854775808 ≤ b ∧ b ≤ 9223372036854775807) (w : World) :
  Calls Try.prog 119 #[.int .i64 a, .int .i64 b] w fun e w' => ∃ v, e = .returned (.tuple #[.int .i64 v, .bool (fits (a - b))]) ∧ (fits (a - b) = true → v = a - b) ∧ w' = w := by
 refine (taken_any a b ha hb w).mono ?_
 rintro e w' ⟨rfl, rfl⟩
 exact ⟨_, rfl, fun h => wrap_in _ ((fits_iff _).mp h), rfl⟩
theorem one_any (b : Bool) (w : World) :
  Calls Try.prog 121 #[.bool b] w fun e w' => e = .returned (.int .i64 (if b then 1 else 0)) ∧ w' = w := by
 cases b
 ·go_enter Try.func121, Try.ntmps121
  go_wp2_with fail
  go_ret
  exact ⟨rfl, rfl⟩
 ·go_enter Try.func121, Try.ntmps121
  go_wp2_with fail
  go_ret
  exact ⟨rfl, rfl⟩
set_option maxHeartbeats 1000000 in
theorem op_left (c : UInt8) (x y : Vl) (h : (x.fault == 0) = false) : GivesV 95 #[.int .u8 c.toNat, vlV x, vlV y] x := by
 intro w
 obtain ⟨xn, xf⟩ := x
 obtain ⟨yn, yf⟩ := y
 simp only at h
 go_enter Try.func95, Try.ntmps95
 go_wp2_with fail
 exact bodyPost_ret (v := vlV ⟨xn, xf⟩) (by simp [results, Try.results95, go_sem]) rfl ⟨rfl, by exact (((Below.refl _ _).alloc (Nat.le_refl _) _).alloc (by simp) _).alloc (by simp; omega) _⟩
set_option maxHeartbeats 1000000 in
theorem op_right (c : UInt8) (xn : Int) (y : Vl) (h : (y.fault == 0) = false) : GivesV 95 #[.int .u8 c.toNat, vlV ⟨xn, 0⟩, vlV y] y := by
 intro w
 obtain ⟨yn, yf⟩ := y
 simp only at h
 go_enter Try.func95, Try.ntmps95
 go_wp2_with fail
 exact bodyPost_ret (v := vlV ⟨yn, yf⟩) (by simp [results, Try.results95, go_sem]) rfl ⟨rfl, by exact (((Below.refl _ _).alloc (Nat.le_refl _) _).alloc (by simp) _).alloc (by simp; omega) _⟩
set_option maxHeartbeats 1000000 in
theorem op_add (a b : Int) (ha : -9223372036854775808 ≤ a ∧ a ≤ 9223372036854775807) (hb : -9223372036854775808 ≤ b ∧ b ≤ 9223372036854775807) : GivesV 95 #[.int .u8 43, vlV ⟨a, 0⟩, vlV ⟨b, 0⟩] (vlOf (a + b)) := by
 intro w
 have hA := added_is a b ha hb
 have hv : vlOf (a + b) = if fits (a + b) then ⟨a + b, 0⟩ else ⟨0, 1⟩ := rfl
 generalize vlOf (a + b) = r at *
 generalize a + b = s at *
 cases hf : fits s with
 | true =>
  rw [hf, if_pos rfl] at hv
  subst hv
  have HA : Hid (∀ w, Calls Try.prog 118 #[.int .i64 a, .int .i64 b] w fun e w' => e = .returned (.tuple #[.int .i64 s, .bool true]) ∧ w' = w) := fun w => by
   refine (hA w).mono ?_
   rintro e w' ⟨v, rfl, h, rfl⟩
   rw [hf, h hf]
   exact ⟨rfl, rfl⟩
  clear hA hf ha hb
  go_enter Try.func95, Try.ntmps95
  go_wp2_with (first | (go_at_call 118; refine (HA.out _).mono ?_; rintro e w1 ⟨rfl, hw1⟩; rw [hw1]; clear hw1))
  exact bodyPost_ret (v := vlV ⟨s, 0⟩) (by simp [results, Try.results95, go_sem]) rfl ⟨rfl, by exact (((Below.refl _ _).alloc (Nat.le_refl _) _).alloc (by simp) _).alloc (by simp; omega) _⟩
 | false =>
  rw [hf, if_neg (by simp)] at hv
  subst hv
  have HA : Hid (∀ w, Calls Try.prog 118 #[.int .i64 a, .int .i64 b] w fun e w' => ∃ v, e = .returned (.tuple #[.int .i64 v, .bool false]) ∧ w' = w) := fun w => by
   refine (hA w).mono ?_
   rintro e w' ⟨v, rfl, h, rfl⟩
   rw [hf]
   exact ⟨v, rfl, rfl⟩
  clear hA hf ha hb
  go_enter Try.func95, Try.ntmps95
  go_wp2_with (first | (go_at_call 118; refine (HA.out _).mono ?_; rintro e w1 ⟨v, rfl, hw1⟩; rw [hw1]; clear hw1))
  exact bodyPost_ret (v := vlV ⟨0, 1⟩) (by simp [results, Try.results95, go_sem]) rfl ⟨rfl, by exact (((Below.refl _ _).alloc (Nat.le_refl _) _).alloc (by simp) _).alloc (by simp; omega) _⟩
set_option maxHeartbeats 1000000 in
theorem op_sub (a b : Int) (ha : -9223372036854775808 ≤ a ∧ a ≤ 9223372036854775807) (hb : -9223372036854775808 ≤ b ∧ b ≤ 9223372036854775807) : GivesV 95 #[.int .u8 45, vlV ⟨a, 0⟩, vlV ⟨b, 0⟩] (vlOf (a - b)) := by
 intro w
 have hA := taken_is a b ha hb
 have hv : vlOf (a - b) = if fits (a - b) then ⟨a - b, 0⟩ else ⟨0, 1⟩ := rfl
 generalize vlOf (a - b) = r at *
 generalize a - b = s at *
 cases hf : fits s with
 | true =>
  rw [hf, if_pos rfl] at hv
  subst hv
  have HA : Hid (∀ w, Calls Try.prog 119 #[.int .i64 a, .int .i64 b] w fun e w' => e = .returned (.tuple #[.int .i64 s, .bool true]) ∧ w' = w) := fun w => by
   refine (hA w).mono ?_
   rintro e w' ⟨v, rfl, h, rfl⟩
   rw [hf, h hf]
   exact ⟨rfl, rfl⟩
  clear hA hf ha hb
  go_enter Try.func95, Try.ntmps95
  go_wp2_with (first | (go_at_call 119; refine (HA.out _).mono ?_; rintro e w1 ⟨rfl, hw1⟩; rw [hw1]; clear hw1))
  exact bodyPost_ret (v := vlV ⟨s, 0⟩) (by simp [results, Try.results95, go_sem]) rfl ⟨rfl, by exact (((Below.refl _ _).alloc (Nat.le_refl _) _).alloc (by simp) _).alloc (by simp; omega) _⟩
 | false =>
  rw [hf, if_neg (by simp)] at hv
  subst hv
  have HA : Hid (∀ w, Calls Try.prog 119 #[.int .i64 a, .int .i64 b] w fun e w' => ∃ v, e = .returned (.tuple #[.int .i64 v, .bool false]) ∧ w' = w) := fun w => by
   refine (hA w).mono ?_
   rintro e w' ⟨v, rfl, h, rfl⟩
   rw [hf]
   exact ⟨v, rfl, rfl⟩
  clear hA hf ha hb
  go_enter Try.func95, Try.ntmps95
  go_wp2_with (first | (go_at_call 119; refine (HA.out _).mono ?_; rintro e w1 ⟨v, rfl, hw1⟩; rw [hw1]; clear hw1))
  exact bodyPost_ret (v := vlV ⟨0, 1⟩) (by simp [results, Try.results95, go_sem]) rfl ⟨rfl, by exact (((Below.refl _ _).alloc (Nat.le_refl _) _).alloc (by simp) _).alloc (by simp; omega) _⟩
set_option maxHeartbeats 1000000 in
theorem op_mul (a b : Int) (ha : -9223372036854775808 ≤ a ∧ a ≤ 9223372036854775807) (hb : -9223372036854775808 ≤ b ∧ b ≤ 9223372036854775807) : GivesV 95 #[.int .u8 42, vlV ⟨a, 0⟩, vlV ⟨b, 0⟩] (vlOf (a * b)) := by
 intro w
 have hA := timed_any a b ha hb
 have hv : vlOf (a * b) = if fits (a * b) then ⟨a * b, 0⟩ else ⟨0, 1⟩ := rfl
 generalize vlOf (a * b) = r at *
 generalize a * b = s at *
 cases hf : fits s with
 | true =>
  rw [hf, if_pos rfl] at hv
  subst hv
  have HA : Hid (∀ w, Calls Try.prog 120 #[.int .i64 a, .int .i64 b] w fun e w' => e = .returned (.tuple #[.int .i64 s, .bool true]) ∧ w' = w) := fun w => by
   refine (hA w).mono ?_
   rintro e w' ⟨v, rfl, h, rfl⟩
   rw [hf, h hf]
   exact ⟨rfl, rfl⟩
  clear hA hf ha hb
  go_enter Try.func95, Try.ntmps95
  go_wp2_with (first | (go_at_call 120; refine (HA.out _).mono ?_; rintro e w1 ⟨rfl, hw1⟩; rw [hw1]; clear hw1))
  exact bodyPost_ret (v := vlV ⟨s, 0⟩) (by simp [results, Try.results95, go_sem]) rfl ⟨rfl, by exact (((Below.refl _ _).alloc (Nat.le_refl _) _).alloc (by simp) _).alloc (by simp; omega) _⟩
 | false =>
  rw [hf, if_neg (by simp)] at hv
  subst hv
  have HA : Hid (∀ w, Calls Try.prog 120 #[.int .i64 a, .int .i64 b] w fun e w' => ∃ v, e = .returned (.tuple #[.int .i64 v, .bool false]) ∧ w' = w) := fun w => by
   refine (hA w).mono ?_
   rintro e w' ⟨v, rfl, h, rfl⟩
   rw [hf]
   exact ⟨v, rfl, rfl⟩
  clear hA hf ha hb
  go_enter Try.func95, Try.ntmps95
  go_wp2_with (first | (go_at_call 120; refine (HA.out _).mono ?_; rintro e w1 ⟨v, rfl, hw1⟩; rw [hw1]; clear hw1))
  exact bodyPost_ret (v := vlV ⟨0, 1⟩) (by simp [results, Try.results95, go_sem]) rfl ⟨rfl, by exact (((Below.refl _ _).alloc (Nat.le_refl _) _).alloc (by simp) _).alloc (by simp; omega) _⟩
set_option maxHeartbeats 1000000 in
theorem op_lt (a b : Int) : GivesV 95 #[.int .u8 60, vlV ⟨a, 0⟩, vlV ⟨b, 0⟩] ⟨if a < b then 1 else 0, 0⟩ := by
 intro w
 have hA := one_any (decide (a < b))
 have hv : (if (decide (a < b)) = true then (1 : Int) else 0) = if a < b then 1 else 0 := by simp
 rw [hv] at hA
 generalize (if a < b then (1 : Int) else 0) = s at *
 have HA : Hid (∀ w, Calls Try.prog 121 #[.bool (decide (a < b))] w fun e w' => e = .returned (.int .i64 s) ∧ w' = w) := hA
 clear hA hv
 go_enter Try.func95, Try.ntmps95
 go_wp2_with (first | (go_at_call 121; refine (HA.out _).mono ?_; rintro e w1 ⟨rfl, hw1⟩; rw [hw1]; clear hw1))
 exact bodyPost_ret (v := vlV ⟨s, 0⟩) (by simp [results, Try.results95, go_sem]) rfl ⟨rfl, by exact (((Below.refl _ _).alloc (Nat.le_refl _) _).alloc (by simp) _).alloc (by simp; omega) _⟩
set_option maxHeartbeats 1000000 in
theorem op_eq (a b : Int) : GivesV 95 #[.int .u8 61, vlV ⟨a, 0⟩, vlV ⟨b, 0⟩] ⟨if a = b then 1 else 0, 0⟩ := by
 intro w
 have hA := one_any (a == b)
 have hv : (if (a == b) = true then (1 : Int) else 0) = if a = b then 1 else 0 := by simp
 rw [hv] at hA
 generalize (if a = b then (1 : Int) else 0) = s at *
 have HA : Hid (∀ w, Calls Try.prog 121 #[.bool (a == b)] w fun e w' => e = .returned (.int .i64 s) ∧ w' = w) := hA
 clear hA hv
 go_enter Try.func95, Try.ntmps95
 go_wp2_with (first | (go_at_call 121; refine (HA.out _).mono ?_; rintro e w1 ⟨rfl, hw1⟩; rw [hw1]; clear hw1))
 exact bodyPost_ret (v := vlV ⟨s, 0⟩) (by simp [results, Try.results95, go_sem]) rfl ⟨rfl, by exact (((Below.refl _ _).alloc (Nat.le_refl _) _).alloc (by simp) _).alloc (by simp; omega) _⟩
set_option maxHeartbeats 1000000 in
theorem op_zero (c : UInt8) (t1 : ((c.toNat : Int) == 43) = false) (t2 : ((c.toNat : Int) == 45) = false) (t3 : ((c.toNat : Int) == 42) = false) (t4 : ((c.toNat : Int) == 60) = false) (t5 : ((c.toNat : Int) == 61) = false) (a : Int) : GivesV 95 #[.int .u8 c.toNat, vlV ⟨a, 0⟩, vlV ⟨0, 0⟩] ⟨0, 2⟩ := by
 intro w
 go_enter Try.func95, Try.ntmps95
 go_wp2_with fail
 exact bodyPost_ret (v := vlV ⟨0, 2⟩) (by simp [results, Try.results95, go_sem]) rfl ⟨rfl, by exact (((Below.refl _ _).alloc (Nat.le_refl _) _).alloc (by simp) _).alloc (by simp; omega) _⟩
set_option maxHeartbeats 1000000 in
theorem op_div (a b : Int) (ha : -9223372036854775808 ≤ a ∧ a ≤ 9223372036854775807) (hb : -9223372036854775808 ≤ b ∧ b ≤ 9223372036854775807) (hb0 : b ≠ 0) : GivesV 95 #[.int .u8 47, vlV ⟨a, 0⟩, vlV ⟨b, 0⟩] (vlOf (a.tdiv b)) := by
 intro w
 have hA := shared_any a b ha hb hb0
 have hv : vlOf (a.tdiv b) = if fits (a.tdiv b) then ⟨a.tdiv b, 0⟩ else ⟨0, 1⟩ := rfl
 have t0 : (b == 0) = false := by simpa using hb0
 generalize vlOf (a.tdiv b) = r at *
 generalize a.tdiv b = s at *
 generalize a.tmod b = m at *
 cases hf : fits s with
 | true =>
  rw [hf, if_pos rfl] at hv
  subst hv
  have HA : Hid (∀ w, Calls Try.prog 122 #[.int .i64 a, .int .i64 b] w fun e w' => e = .returned (.tuple #[.int .i64 s, .int .i64 m, .bool true]) ∧ w' = w) := fun w => by
   refine (hA w).mono ?_
   rintro e w' ⟨v, rfl, h, rfl⟩
   rw [hf, h hf]
   exact ⟨rfl, rfl⟩
  clear hA hf ha hb hb0
  go_enter Try.func95, Try.ntmps95
  go_wp2_with (first | (go_at_call 122; refine (HA.out _).mono ?_; rintro e w1 ⟨rfl, hw1⟩; rw [hw1]; clear hw1))
  exact bodyPost_ret (v := vlV ⟨s, 0⟩) (by simp [results, Try.results95, go_sem]) rfl ⟨rfl, by exact (((Below.refl _ _).alloc (Nat.le_refl _) _).alloc (by simp) _).alloc (by simp; omega) _⟩
 | false =>
  rw [hf, if_neg (by simp)] at hv
  subst hv
  have HA : Hid (∀ w, Calls Try.prog 122 #[.int .i64 a, .int .i64 b] w fun e w' => ∃ v, e = .returned (.tuple #[.int .i64 v, .int .i64 m, .bool false]) ∧ w' = w) := fun w => by
   refine (hA w).mono ?_
   rintro e w' ⟨v, rfl, h, rfl⟩
   rw [hf]
   exact ⟨v, rfl, rfl⟩
  clear hA hf ha hb hb0
  go_enter Try.func95, Try.ntmps95
  go_wp2_with (first | (go_at_call 122; refine (HA.out _).mono ?_; rintro e w1 ⟨v, rfl, hw1⟩; rw [hw1]; clear hw1))
  exact bodyPost_ret (v := vlV ⟨0, 1⟩) (by simp [results, Try.results95, go_sem]) rfl ⟨rfl, by exact (((Below.refl _ _).alloc (Nat.le_refl _) _).alloc (by simp) _).alloc (by simp; omega) _⟩
set_option maxHeartbeats 1000000 in
theorem op_rem (c : UInt8) (t1 : ((c.toNat : Int) == 43) = false) (t2 : ((c.toNat : Int) == 45) = false) (t3 : ((c.toNat : Int) == 42) = false) (t4 : ((c.toNat : Int) == 60) = false) (t5 : ((c.toNat : Int) == 61) = false) (t6 : ((c.toNat : Int) == 47) = false) (a b : Int) (ha : -9223372036854775808 ≤ a ∧ a ≤ 9223372036854775807) (hb : -9223372036854775808 ≤ b ∧ b ≤ 9223372036854775807) (hb0 : b ≠ 0) : GivesV 95 #[.int .u8 c.toNat, vlV ⟨a, 0⟩, vlV ⟨b, 0⟩] ⟨a.tmod b, 0⟩ := by
 intro w
 have hA := shared_any a b ha hb hb0
 have t0 : (b == 0) = false := by simpa using hb0
 generalize a.tmod b = m at *
 have HA : Hid (∀ w, Calls Try.prog 122 #[.int .i64 a, .int .i64 b] w fun e w' => ∃ v q, e = .returned (.tuple #[.int .i64 v, .int .i64 m, .bool q]) ∧ w' = w) := fun w => by
  refine (hA w).mono ?_
  rintro e w' ⟨v, rfl, h, rfl⟩
  exact ⟨v, _, rfl, rfl⟩
 clear hA ha hb hb0
 go_enter Try.func95, Try.ntmps95
 go_wp2_with (first | (go_at_call 122; refine (HA.out _).mono ?_; rintro e w1 ⟨v, q, rfl, hw1⟩; rw [hw1]; clear hw1))
 exact bodyPost_ret (v := vlV ⟨m, 0⟩) (by simp [results, Try.results95, go_sem]) rfl ⟨rfl, by exact (((Below.refl _ _).alloc (Nat.le_refl _) _).alloc (by simp) _).alloc (by simp; omega) _⟩
theorem byte_test {c k : UInt8} : ((c.toNat : Int) == (k.toNat : Int)) = (c == k) := by
 rw [Bool.eq_iff_iff]
 simp only [beq_iff_eq]
 constructor
 ·intro h; exact UInt8.toNat_inj.mp (by omega)
 ·rintro rfl; rfl
theorem refOp_any (c : UInt8) (x y : Vl) (hx : VlOk x) (hy : VlOk y) : GivesV 95 #[.int .u8 c.toNat, vlV x, vlV y] (opC c x y) := by
 unfold opC
 by_cases x0 : x.fault = 0
 ·rw [if_neg (by simpa using x0)]
  by_cases y0 : y.fault = 0
  ·rw [if_neg (by simpa using y0)]
   have hxn := hx.num
   have hyn := hy.num
   obtain ⟨xn, xf⟩ := x
   obtain ⟨yn, yf⟩ := y
   simp only at x0 y0 hxn hyn ⊢
   subst x0
   subst y0
   have tt : ∀ k : UInt8, (c == k) = false → ((c.toNat : Int) == (k.toNat : Int)) = false := fun k h => by rw [byte_test]; exact h
   cases h1 : c == 43 with
   | true => have := eq_of_beq h1; subst this; exact op_add xn yn hxn hyn
   | false =>
   cases h2 : c == 45 with
   | true => have := eq_of_beq h2; subst this; exact op_sub xn yn hxn hyn
   | false =>
   cases h3 : c == 42 with
   | true => have := eq_of_beq h3; subst this; exact op_mul xn yn hxn hyn
   | false =>
   cases h4 : c == 60 with
   | true => have := eq_of_beq h4; subst this; exact op_lt xn yn
   | false =>
   cases h5 : c == 61 with
   | true => have := eq_of_beq h5; subst this; exact op_eq xn yn
   | false =>
   simp only [Bool.false_eq_true, if_false]
   by_cases hb0 : yn = 0
   ·subst hb0
    have k := op_zero c (tt 43 h1) (tt 45 h2) (tt 42 h3) (tt 60 h4) (tt 61 h5) xn
    simpa [divV, remV] using k
   ·cases h6 : c == 47 with
    | true =>
     have := eq_of_beq h6; subst this
     have k := op_div xn yn hxn hyn hb0
     simp only [if_true, divV, if_neg hb0]
     exact k
    | false =>
     have k := op_rem c (tt 43 h1) (tt 45 h2) (tt 42 h3) (tt 60 h4) (tt 61 h5) (tt 47 h6) xn yn hxn hyn hb0
     simp only [Bool.false_eq_true, if_false, remV, if_neg hb0]
     exact k
  ·rw [if_pos y0]
   obtain ⟨xn, xf⟩ := x
   simp only at x0
   subst x0
   exact op_right c xn y (by simpa using y0)
 ·rw [if_pos x0]
  exact op_left c x y (by simpa using x0)
end Go.Proofs.Ytdgmoiflahoihaa
