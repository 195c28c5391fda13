import Derived.Test.YtdgmoiflahoihaaRRunx

namespace Go.Proofs.Ytdgmoiflahoihaa
open Go.RowKit
set_option linter.unusedSimpArgs false
set_option linter.unusedVariables false
def In64 (a : Int) : Prop := -9223372036854775808 ≤ a ∧ a ≤ 9223372036854775807
theorem and_mask (a : Int) (h : In64 a) : bits .and .i64 a 4294967295 = a % 4294967296 := by
 show IntKind.i64.wrap ((BitVec.ofInt 64 a &&& BitVec.ofInt 64 4294967295).toNat : Int) = _
 have e1 : (BitVec.ofInt 64 4294967295).toNat = 2 ^ 32 - 1 := by decide
 rw [BitVec.toNat_and, e1, Nat.and_two_pow_sub_one_eq_mod, BitVec.toNat_ofInt]
 have e2 : (((a % ((2 ^ 64 : Nat) : Int)).toNat % 2 ^ 32 : Nat) : Int) = a % 4294967296 := by
  have : ((2 ^ 64 : Nat) : Int) = 18446744073709551616 := by decide
  rw [this]
  omega
 rw [e2]
 exact IntWalk.i64_in _ ⟨by omega, by omega⟩
set_option maxHeartbeats 400000 in
theorem half_any (a : Int) (h : In64 a) (w : World) :
  Calls Try.prog 44 #[.int .i64 a] w fun e w' => e = .returned (.tuple #[.int .i64 (a / 4294967296), .int .i64 (a % 4294967296)]) ∧ w' = w := by
 have hm := and_mask a h
 obtain ⟨h1, h2⟩ := h
 have hd : (a - a % 4294967296).tdiv 4294967296 = a / 4294967296 := by
  have e : a - a % 4294967296 = a / 4294967296 * 4294967296 := by omega
  rw [e, Int.mul_tdiv_cancel _ (by decide)]
 go_enter Try.func44, Try.ntmps44
 go_wp2_with fail
 go_ret2
 exact ⟨rfl, rfl⟩
theorem ret_nb {a b : Int} {p q : Bool} (h : a = b) (k : p = q) : Ending.returned (.tuple #[.int .i64 a, .bool p]) = .returned (.tuple #[.int .i64 b, .bool q]) := by rw [h, k]
set_option maxHeartbeats 1000000 in
theorem sum_add (a b : Int) (ha : In64 a) (hb : In64 b) (w : World) :
  Calls Try.prog 19 #[.int .i64 a, .int .i64 b, .int .i64 1] w fun e w' => e = .returned (.tuple #[.int .i64 (if fits (a + b) then a + b else 0), .bool (fits (a + b))]) ∧ w' = w := by
 obtain ⟨ha1, ha2⟩ := ha
 obtain ⟨hb1, hb2⟩ := hb
 have HF : Hid (fits (a + b) = true ↔ -9223372036854775808 ≤ a + b ∧ a + b ≤ 9223372036854775807) := fits_iff (a + b)
 generalize hS : a + b = S at *
 go_enter Try.func19, Try.ntmps19
 go_wp2_with (first | (go_at_call 44; refine (half_any _ (by first | exact ⟨ha1, ha2⟩ | exact ⟨hb1, hb2⟩) _).mono ?_; rintro e w1 ⟨rfl, hw1⟩; rw [hw1]; clear hw1))
 go_loop [12, 13] (fun x y => ∃ lo hi : Int, x = .int .i64 lo ∧ y = .int .i64 hi ∧ -4294967296 ≤ lo ∧ lo ≤ 8589934592 ∧ -8589934592 ≤ hi ∧ hi ≤ 8589934592 ∧ hi * 4294967296 + lo = S) (fun x _ => (-(intOf x)).toNat)
 case atStart => exact ⟨_, _, rfl, rfl, by omega, by omega, by omega, by omega, by omega⟩
 case round =>
  obtain ⟨lo, hi, rfl, rfl, l1, l2, k1, k2, he⟩ := hrel
  by_cases h0 : lo < 0
  ·go_wp2_with fail
   go_round
   case rel => exact ⟨lo + 4294967296, hi - 1, by go_num, by go_num, by omega, by omega, by omega, by omega, by omega⟩
   case measure => simp [intOf]; omega
  ·go_wp2_with fail
   go_loop [12, 13] (fun x y => ∃ lo hi : Int, x = .int .i64 lo ∧ y = .int .i64 hi ∧ 0 ≤ lo ∧ lo ≤ 8589934592 ∧ -8589934592 ≤ hi ∧ hi ≤ 17179869184 ∧ hi * 4294967296 + lo = S) (fun x _ => (intOf x).toNat)
   case atStart => exact ⟨lo, hi, rfl, rfl, by omega, by omega, by omega, by omega, by omega⟩
   case round =>
    clear l1 l2 k1 k2 he h0
    obtain ⟨lo, hi, rfl, rfl, l1, l2, k1, k2, he⟩ := hrel
    by_cases h0 : lo ≥ 4294967296
    ·go_wp2_with fail
     go_round
     case rel => exact ⟨lo - 4294967296, hi + 1, by go_num, by go_num, by omega, by omega, by omega, by omega, by omega⟩
     case measure => simp [intOf]; omega
    ·cases hf : fits S
     ·have hno : ¬ (-9223372036854775808 ≤ S ∧ S ≤ 9223372036854775807) := fun h => by have := HF.out.mpr h; rw [hf] at this; cases this
      have hor : hi < -2147483648 ∨ hi ≥ 2147483648 := by omega
      rcases hor with hor | hor
      all_goals go_wp2_with fail
      all_goals go_ret2
      all_goals exact ⟨ret_nb (by simp [hf]) rfl, rfl⟩
     ·have hyes := HF.out.mp hf
      go_wp2_with fail
      go_ret2
      exact ⟨ret_nb (by simp [hf]) rfl, rfl⟩
set_option maxHeartbeats 1000000 in
theorem sum_sub (a b : Int) (ha : In64 a) (hb : In64 b) (w : World) :
  Calls Try.prog 19 #[.int .i64 a, .int .i64 b, .int .i64 (-1)] w fun e w' => e = .returned (.tuple #[.int .i64 (if fits (a - b) then a - b else 0), .bool (fits (a - b))]) ∧ w' = w := by
 obtain ⟨ha1, ha2⟩ := ha
 obtain ⟨hb1, hb2⟩ := hb
 have HF : Hid (fits (a - b) = true ↔ -9223372036854775808 ≤ a - b ∧ a - b ≤ 9223372036854775807) := fits_iff (a - b)
 generalize hS : a - b = S at *
 go_enter Try.func19, Try.ntmps19
 go_wp2_with (first | (go_at_call 44; refine (half_any _ (by first | exact ⟨ha1, ha2⟩ | exact ⟨hb1, hb2⟩) _).mono ?_; rintro e w1 ⟨rfl, hw1⟩; rw [hw1]; clear hw1))
 go_loop [12, 13] (fun x y => ∃ lo hi : Int, x = .int .i64 lo ∧ y = .int .i64 hi ∧ -4294967296 ≤ lo ∧ lo ≤ 8589934592 ∧ -8589934592 ≤ hi ∧ hi ≤ 8589934592 ∧ hi * 4294967296 + lo = S) (fun x _ => (-(intOf x)).toNat)
 case atStart => exact ⟨_, _, rfl, rfl, by omega, by omega, by omega, by omega, by omega⟩
 case round =>
  obtain ⟨lo, hi, rfl, rfl, l1, l2, k1, k2, he⟩ := hrel
  by_cases h0 : lo < 0
  ·go_wp2_with fail
   go_round
   case rel => exact ⟨lo + 4294967296, hi - 1, by go_num, by go_num, by omega, by omega, by omega, by omega, by omega⟩
   case measure => simp [intOf]; omega
  ·go_wp2_with fail
   go_loop [12, 13] (fun x y => ∃ lo hi : Int, x = .int .i64 lo ∧ y = .int .i64 hi ∧ 0 ≤ lo ∧ lo ≤ 8589934592 ∧ -8589934592 ≤ hi ∧ hi ≤ 17179869184 ∧ hi * 4294967296 + lo = S) (fun x _ => (intOf x).toNat)
   case atStart => exact ⟨lo, hi, rfl, rfl, by omega, by omega, by omega, by omega, by omega⟩
   case round =>
    clear l1 l2 k1 k2 he h0
    obtain ⟨lo, hi, rfl, rfl, l1, l2, k1, k2, he⟩ := hrel
    by_cases h0 : lo ≥ 4294967296
    ·go_wp2_with fail
     go_round
     case rel => exact ⟨lo - 4294967296, hi + 1, by go_num, by go_num, by omega, by omega, by omega, by omega, by omega⟩
     case measure => simp [intOf]; omega
    ·cases hf : fits S
     ·have hno : ¬ (-9223372036854775808 ≤ S ∧ S ≤ 9223372036854775807) := fun h => by have := HF.out.mpr h; rw [hf] at this; cases this
      have hor : hi < -2147483648 ∨ hi ≥ 2147483648 := by omega
      rcases hor with hor | hor
      all_goals go_wp2_with fail
      all_goals go_ret2
      all_goals exact ⟨ret_nb (by simp [hf]) rfl, rfl⟩
     ·have hyes := HF.out.mp hf
      go_wp2_with fail
      go_ret2
      exact ⟨ret_nb (by simp [hf]) rfl, rfl⟩
end Go.Proofs.Ytdgmoiflahoihaa
namespace Go.Proofs.Ytdgmoiflahoihaa
open Go.RowKit
set_option linter.unusedSimpArgs false
set_option linter.unusedVariables false
def ProdPost (a b : Int) (w : World) (e : Ending) (w' : World) : Prop := ∃ v, In64 v ∧ e = .returned (.tuple #[.int .i64 v, .bool (fits (a * b))]) ∧ (fits (a * b) = true → v = a * b) ∧ w' = w
theorem fits_zero : fits 0 = true := by decide
theorem prod_step {a b h : Int} (hb : 0 < b) (hh : h = b / 2) : (fits (a * h) = false → fits (a * b) = false) ∧ (fits (a * h + a * h) = false → fits (a * b) = false) ∧ (b % 2 = 1 → a * h + a * h + a = a * b) ∧ (b % 2 = 0 → a * h + a * h = a * b) := by
 have e0 : b = 2 * h + b % 2 := by omega
 have e1 : a * b = a * h + a * h + a * (b % 2) := by
  conv => lhs; rw [e0]
  rw [Int.mul_add, Int.two_mul, Int.mul_add]
 have h0 : 0 ≤ h := by omega
 have hs : (0 ≤ a → 0 ≤ a * h) ∧ (a ≤ 0 → a * h ≤ 0) := ⟨fun k => Int.mul_nonneg k h0, fun k => Int.mul_nonpos_of_nonpos_of_nonneg k h0⟩
 have hr : b % 2 = 0 ∨ b % 2 = 1 := by omega
 have hm : (b % 2 = 0 → a * (b % 2) = 0) ∧ (b % 2 = 1 → a * (b % 2) = a) := ⟨fun k => by rw [k]; simp, fun k => by rw [k]; simp⟩
 generalize a * b = p at *
 generalize a * h = q at *
 generalize a * (b % 2) = r at *
 obtain ⟨s1, s2⟩ := hs
 obtain ⟨m0, m1⟩ := hm
 refine ⟨fun k => ?_, fun k => ?_, fun k => ?_, fun k => ?_⟩
 ·rw [fits_not] at k ⊢
  rcases hr with hr | hr
  ·have := m0 hr
   rcases Int.le_total 0 a with ha | ha
   ·have := s1 ha; omega
   ·have := s2 ha; omega
  ·have := m1 hr
   rcases Int.le_total 0 a with ha | ha
   ·have := s1 ha; omega
   ·have := s2 ha; omega
 ·rw [fits_not] at k ⊢
  rcases hr with hr | hr
  ·have := m0 hr
   omega
  ·have := m1 hr
   rcases Int.le_total 0 a with ha | ha
   ·have := s1 ha; omega
   ·have := s2 ha; omega
 ·have := m1 k; omega
 ·have := m0 k; omega
theorem lt64 {x : Int} (h : x < 18446744073709551616) : x < 2 ^ 64 := by
 have e : (2 : Int) ^ 64 = 18446744073709551616 := by decide
 omega
theorem sum_no (a b : Int) (ha : In64 a) (hb : In64 b) (h : fits (a + b) = false) (w : World) :
  Hid (Calls Try.prog 19 #[.int .i64 a, .int .i64 b, .int .i64 1] w fun e w' => e = .returned (.tuple #[.int .i64 0, .bool false]) ∧ w' = w) := by
 have k := sum_add a b ha hb w
 rw [h] at k
 exact k
theorem sum_yes (a b : Int) (ha : In64 a) (hb : In64 b) (h : fits (a + b) = true) (w : World) :
  Hid (Calls Try.prog 19 #[.int .i64 a, .int .i64 b, .int .i64 1] w fun e w' => e = .returned (.tuple #[.int .i64 (a + b), .bool true]) ∧ w' = w) := by
 have k := sum_add a b ha hb w
 rw [h] at k
 exact k
set_option maxRecDepth 100000 in
set_option maxHeartbeats 1000000 in
theorem product_pos : ∀ (n : Nat) (a b : Int), In64 a → 0 ≤ b → b < 2 ^ n → b ≤ 9223372036854775807 → ∀ w : World, Calls Try.prog 22 #[.int .i64 a, .int .i64 b] w (ProdPost a b w)
 | n, a, b, ha, hb, hn, hm, w => by
  by_cases z : a = 0 ∨ b = 0
  ·have hz : a * b = 0 := by rcases z with z | z <;> rw [z] <;> simp
   have hp : ∀ e w', e = .returned (.tuple #[.int .i64 0, .bool true]) ∧ w' = w → ProdPost a b w e w' := by
    rintro e w' ⟨rfl, rfl⟩
    exact ⟨0, ⟨by decide, by decide⟩, by rw [hz]; rfl, fun _ => hz.symm, rfl⟩
   refine Calls.mono (R := fun e w' => e = .returned (.tuple #[.int .i64 0, .bool true]) ∧ w' = w) ?_ hp
   clear hp hz
   rcases z with z | z
   ·subst z
    go_enter Try.func22, Try.ntmps22
    go_wp2_with fail
    go_ret2
    exact ⟨rfl, rfl⟩
   ·subst z
    cases ta : (a == 0)
    all_goals go_enter Try.func22, Try.ntmps22
    all_goals go_wp2_with fail
    all_goals go_ret2
    all_goals exact ⟨rfl, rfl⟩
  ·have a0 : ¬ a = 0 := fun e => z (.inl e)
   have b0 : ¬ b = 0 := fun e => z (.inr e)
   match n, hn with
   | 0, hn => exact absurd hn (by simp; omega)
   | k + 1, hn =>
    have hk : b / 2 < 2 ^ k := by
     rw [Int.pow_succ] at hn
     omega
    have IH : Hid (Calls Try.prog 22 #[.int .i64 a, .int .i64 (b / 2)] w (ProdPost a (b / 2) w)) := product_pos k a (b / 2) ha (by omega) hk (by omega) w
    obtain ⟨f1, f2, f3, f4⟩ := prod_step (a := a) (b := b) (h := b / 2) (by omega) rfl
    have ta : (a == 0) = false := by simpa using a0
    have tb : (b == 0) = false := by simpa using b0
    have hb1 : 0 < b := by omega
    obtain ⟨ha1, ha2⟩ := ha
    clear hn hk z
    have hpp : ∀ e w', ProdPost a b w e w' ↔ ∃ v, In64 v ∧ e = .returned (.tuple #[.int .i64 v, .bool (fits (a * b))]) ∧ (fits (a * b) = true → v = a * b) ∧ w' = w := fun e w' => Iff.rfl
    unfold ProdPost at IH
    unfold ProdPost
    generalize a * b = p at *
    generalize a * (b / 2) = q at *
    have F1 : Hid (fits q = false → fits p = false) := f1
    have F2 : Hid (fits (q + q) = false → fits p = false) := f2
    clear f1 f2 hpp
    cases hfq : fits q
    ·have hfp := F1.out hfq
     rw [hfq] at IH
     rw [hfp]
     go_enter Try.func22, Try.ntmps22
     go_wp2_with (first | (go_at_call 22; refine IH.out.mono ?_; rintro e w1 ⟨v, hv, rfl, hve, hw1⟩; rw [hw1]; clear hw1))
     go_ret2
     exact ⟨v, hv, rfl, fun h => (by cases h), rfl⟩
    ·rw [hfq] at IH
     have hqi : In64 q := (fits_iff q).mp hfq
     cases hf2 : fits (q + q)
     ·have hfp := F2.out hf2
      rw [hfp]
      have HS := sum_no q q hqi hqi hf2 w
      go_enter Try.func22, Try.ntmps22
      go_wp2_with (first | (go_at_call 22; refine IH.out.mono ?_; rintro e w1 ⟨v, hv, rfl, hve, hw1⟩; rw [hw1, hve rfl]; clear hw1 hve) | (go_at_call 19; refine HS.out.mono ?_; rintro e w2 ⟨rfl, hw2⟩; rw [hw2]; clear hw2))
      go_ret2
      exact ⟨0, ⟨by decide, by decide⟩, rfl, fun h => (by cases h), rfl⟩
     ·have HS := sum_yes q q hqi hqi hf2 w
      have h2i : In64 (q + q) := (fits_iff _).mp hf2
      obtain ⟨h2a, h2b⟩ := h2i
      rcases (show b % 2 = 0 ∨ b % 2 = 1 by omega) with hp2 | hp2
      ·have hfp : q + q = p := f4 hp2
       rw [hfp] at hf2 HS h2a h2b
       rw [hf2]
       clear f3 f4 hfp
       go_enter Try.func22, Try.ntmps22
       go_wp2_with (first | (go_at_call 22; refine IH.out.mono ?_; rintro e w1 ⟨v, hv, rfl, hve, hw1⟩; rw [hw1, hve rfl]; clear hw1 hve) | (go_at_call 19; refine HS.out.mono ?_; rintro e w2 ⟨rfl, hw2⟩; rw [hw2]; clear hw2))
       go_ret2
       exact ⟨p, ⟨h2a, h2b⟩, rfl, fun _ => rfl, rfl⟩
      ·have hfp : q + q + a = p := f3 hp2
       generalize hqq : q + q = r at *
       cases hfr : fits p
       ·have HT := sum_no r a ⟨h2a, h2b⟩ ⟨ha1, ha2⟩ (by rw [hfp]; exact hfr) w
        clear f3 f4 hfp hqq
        go_enter Try.func22, Try.ntmps22
        go_upto_region 13 with (first | (go_at_call 22; refine IH.out.mono ?_; rintro e w1 ⟨v, hv, rfl, hve, hw1⟩; rw [hw1, hve rfl]; clear hw1 hve) | (go_at_call 19; refine HS.out.mono ?_; rintro e w2 ⟨rfl, hw2⟩; rw [hw2]; clear hw2))
        go_wp2_with (first | (go_at_call 19; refine HT.out.mono ?_; rintro e w2 ⟨rfl, hw2⟩; rw [hw2]; clear hw2))
        go_ret2
        exact ⟨0, ⟨by decide, by decide⟩, rfl, fun h => (by cases h), rfl⟩
       ·have HT := sum_yes r a ⟨h2a, h2b⟩ ⟨ha1, ha2⟩ (by rw [hfp]; exact hfr) w
        rw [hfp] at HT
        have hpi : In64 p := (fits_iff _).mp hfr
        clear f3 f4 hfp hqq
        go_enter Try.func22, Try.ntmps22
        go_upto_region 13 with (first | (go_at_call 22; refine IH.out.mono ?_; rintro e w1 ⟨v, hv, rfl, hve, hw1⟩; rw [hw1, hve rfl]; clear hw1 hve) | (go_at_call 19; refine HS.out.mono ?_; rintro e w2 ⟨rfl, hw2⟩; rw [hw2]; clear hw2))
        go_wp2_with (first | (go_at_call 19; refine HT.out.mono ?_; rintro e w2 ⟨rfl, hw2⟩; rw [hw2]; clear hw2))
        go_ret2
        exact ⟨p, hpi, rfl, fun _ => rfl, rfl⟩
set_option maxRecDepth 100000 in
set_option maxHeartbeats 1000000 in
theorem product_neg (a b : Int) (ha : In64 a) (hb : In64 b) (b0 : b < 0) (w : World) : Calls Try.prog 22 #[.int .i64 a, .int .i64 b] w (ProdPost a b w) := by
 by_cases a0 : a = 0
 ·subst a0
  have hz : (0 : Int) * b = 0 := by simp
  unfold ProdPost
  rw [hz, fits_zero]
  go_enter Try.func22, Try.ntmps22
  go_wp2_with fail
  go_ret2
  exact ⟨0, ⟨by decide, by decide⟩, rfl, fun _ => rfl, rfl⟩
 ·have ta : (a == 0) = false := by simpa using a0
  have tb : (b == 0) = false := by simp; omega
  by_cases bl : b = -9223372036854775808
  ·subst bl
   unfold ProdPost
   have hf : fits (a * -9223372036854775808) = (a == 1) := by
    rw [Bool.eq_iff_iff, fits_iff]
    simp
    omega
   rw [hf]
   cases t1 : (a == 1)
   ·go_enter Try.func22, Try.ntmps22
    go_wp2_with fail
    go_ret2
    exact ⟨_, hb, rfl, fun h => (by cases h), rfl⟩
   ·have a1 : a = 1 := by simpa using t1
    subst a1
    go_enter Try.func22, Try.ntmps22
    go_wp2_with fail
    go_ret2
    exact ⟨_, hb, rfl, fun _ => by simp, rfl⟩
  ·have tbl : (b == -9223372036854775808) = false := by simpa using bl
   by_cases al : a = -9223372036854775808
   ·subst al
    have hf : fits (-9223372036854775808 * b) = false := by
     rw [fits_not]
     omega
    unfold ProdPost
    rw [hf]
    go_enter Try.func22, Try.ntmps22
    go_wp2_with fail
    go_ret2
    exact ⟨0, ⟨by decide, by decide⟩, rfl, fun h => (by cases h), rfl⟩
   ·have tal : (a == -9223372036854775808) = false := by simpa using al
    obtain ⟨ha1, ha2⟩ := ha
    obtain ⟨hb1, hb2⟩ := hb
    obtain ⟨A, rfl⟩ : ∃ A, a = -A := ⟨-a, by omega⟩
    obtain ⟨B, rfl⟩ : ∃ B, b = -B := ⟨-b, by omega⟩
    have hnb : 0 < B := by omega
    have tA : (A == 0) = false := by simp; omega
    have tB : (B == 0) = false := by simp; omega
    have tA2 : (A == 9223372036854775808) = false := by simp; omega
    have tB2 : (B == 9223372036854775808) = false := by simp; omega
    have hA1 : A ≤ 9223372036854775807 := by omega
    have hA2 : -9223372036854775808 ≤ A := by omega
    have hB1 : B ≤ 9223372036854775807 := by omega
    have IH : Hid (Calls Try.prog 22 #[.int .i64 A, .int .i64 (B / 2)] w (ProdPost A (B / 2) w)) := product_pos 64 A (B / 2) ⟨by omega, by omega⟩ (by omega) (lt64 (by omega)) (by omega) w
    obtain ⟨f1, f2, f3, f4⟩ := prod_step (a := A) (b := B) (h := B / 2) hnb rfl
    unfold ProdPost at IH
    unfold ProdPost
    rw [Int.neg_mul_neg]
    generalize A * B = p at *
    generalize A * (B / 2) = q at *
    have F1 : Hid (fits q = false → fits p = false) := f1
    have F2 : Hid (fits (q + q) = false → fits p = false) := f2
    clear f1 f2
    cases hfq : fits q
    ·have hfp := F1.out hfq
     rw [hfq] at IH
     rw [hfp]
     go_enter Try.func22, Try.ntmps22
     go_wp2_with (first | (go_at_call 22; refine IH.out.mono ?_; rintro e w1 ⟨v, hv, rfl, hve, hw1⟩; rw [hw1]; clear hw1))
     go_ret2
     exact ⟨v, hv, rfl, fun h => (by cases h), rfl⟩
    ·rw [hfq] at IH
     have hqi : In64 q := (fits_iff q).mp hfq
     cases hf2 : fits (q + q)
     ·have hfp := F2.out hf2
      rw [hfp]
      have HS := sum_no q q hqi hqi hf2 w
      go_enter Try.func22, Try.ntmps22
      go_wp2_with (first | (go_at_call 22; refine IH.out.mono ?_; rintro e w1 ⟨v, hv, rfl, hve, hw1⟩; rw [hw1, hve rfl]; clear hw1 hve) | (go_at_call 19; refine HS.out.mono ?_; rintro e w2 ⟨rfl, hw2⟩; rw [hw2]; clear hw2))
      go_ret2
      exact ⟨0, ⟨by decide, by decide⟩, rfl, fun h => (by cases h), rfl⟩
     ·have HS := sum_yes q q hqi hqi hf2 w
      have h2i : In64 (q + q) := (fits_iff _).mp hf2
      obtain ⟨h2a, h2b⟩ := h2i
      rcases (show B % 2 = 0 ∨ B % 2 = 1 by omega) with hp2 | hp2
      ·have hfp : q + q = p := f4 hp2
       rw [hfp] at hf2 HS h2a h2b
       rw [hf2]
       clear f3 f4 hfp
       go_enter Try.func22, Try.ntmps22
       go_wp2_with (first | (go_at_call 22; refine IH.out.mono ?_; rintro e w1 ⟨v, hv, rfl, hve, hw1⟩; rw [hw1, hve rfl]; clear hw1 hve) | (go_at_call 19; refine HS.out.mono ?_; rintro e w2 ⟨rfl, hw2⟩; rw [hw2]; clear hw2))
       go_ret2
       exact ⟨p, ⟨h2a, h2b⟩, rfl, fun _ => rfl, rfl⟩
      ·have hfp : q + q + A = p := f3 hp2
       generalize hqq : q + q = r at *
       cases hfr : fits p
       ·have HT := sum_no r A ⟨h2a, h2b⟩ ⟨by omega, by omega⟩ (by rw [hfp]; exact hfr) w
        clear f3 f4 hfp hqq
        go_enter Try.func22, Try.ntmps22
        go_upto_region 13 with (first | (go_at_call 22; refine IH.out.mono ?_; rintro e w1 ⟨v, hv, rfl, hve, hw1⟩; rw [hw1, hve rfl]; clear hw1 hve) | (go_at_call 19; refine HS.out.mono ?_; rintro e w2 ⟨rfl, hw2⟩; rw [hw2]; clear hw2))
        go_wp2_with (first | (go_at_call 19; refine HT.out.mono ?_; rintro e w2 ⟨rfl, hw2⟩; rw [hw2]; clear hw2))
        go_ret2
        exact ⟨0, ⟨by decide, by decide⟩, rfl, fun h => (by cases h), rfl⟩
       ·have HT := sum_yes r A ⟨h2a, h2b⟩ ⟨by omega, by omega⟩ (by rw [hfp]; exact hfr) w
        rw [hfp] at HT
        have hpi : In64 p := (fits_iff _).mp hfr
        clear f3 f4 hfp hqq
        go_enter Try.func22, Try.ntmps22
        go_upto_region 13 with (first | (go_at_call 22; refine IH.out.mono ?_; rintro e w1 ⟨v, hv, rfl, hve, hw1⟩; rw [hw1, hve rfl]; clear hw1 hve) | (go_at_call 19; refine HS.out.mono ?_; rintro e w2 ⟨rfl, hw2⟩; rw [hw2]; clear hw2))
        go_wp2_with (first | (go_at_call 19; refine HT.out.mono ?_; rintro e w2 ⟨rfl, hw2⟩; rw [hw2]; clear hw2))
        go_ret2
        exact ⟨p, hpi, rfl, fun _ => rfl, rfl⟩
theorem lawProduct_any (a b : Int) (ha : In64 a) (hb : In64 b) (w : World) : Calls Try.prog 22 #[.int .i64 a, .int .i64 b] w (ProdPost a b w) := by
 obtain ⟨hb1, hb2⟩ := hb
 by_cases b0 : 0 ≤ b
 ·exact product_pos 64 a b ha b0 (lt64 (by omega)) hb2 w
 ·exact product_neg a b ha ⟨hb1, hb2⟩ (by omega) w
end Go.Proofs.Ytdgmoiflahoihaa
namespace Go.Proofs.Ytdgmoiflahoihaa
open Go.RowKit
set_option linter.unusedSimpArgs false
set_option linter.unusedVariables false
structure DivFacts (x y q r p : Int) : Prop where
 iq : In64 q
 ir : In64 r
 ip : In64 p
 sum : p + r = x
 s1 : 0 ≤ x → 0 ≤ r
 s2 : x ≤ 0 → r ≤ 0
 lt : r.natAbs < y.natAbs
theorem div_facts {x y : Int} (hx : In64 x) (hy : In64 y) (y0 : y ≠ 0) (hn : ¬ (x = -9223372036854775808 ∧ y = -1)) : DivFacts x y (x.tdiv y) (x.tmod y) (x.tdiv y * y) := by
 have hq : In64 (x.tdiv y) := by
  by_cases h : -9223372036854775808 ≤ x.tdiv y ∧ x.tdiv y ≤ 9223372036854775807
  ·exact h
  ·exact absurd (tdiv_out hx hy y0 h) hn
 have hr := tmod_in hx y0
 have he : x.tdiv y * y + x.tmod y = x := by
  have := Int.mul_tdiv_add_tmod x y
  rw [Int.mul_comm] at this
  exact this
 have h1 : 0 ≤ x → 0 ≤ x.tmod y := fun h => Int.tmod_nonneg y h
 have h2 : x ≤ 0 → x.tmod y ≤ 0 := fun h => by
  have := Int.tmod_nonneg y (a := -x) (by omega)
  rw [Int.neg_tmod] at this
  omega
 have h3 : (x.tmod y).natAbs = x.natAbs % y.natAbs := Int.natAbs_tmod x y
 have h4 : x.natAbs % y.natAbs ≤ x.natAbs := Nat.mod_le _ _
 have h5 : x.natAbs % y.natAbs < y.natAbs := Nat.mod_lt _ (by omega)
 obtain ⟨hx1, hx2⟩ := hx
 generalize x.tdiv y * y = p at *
 generalize x.tmod y = r at *
 refine ⟨hq, hr, ?_, he, h1, h2, by omega⟩
 rcases Int.le_total 0 x with h | h
 ·have := h1 h
  exact ⟨by omega, by omega⟩
 ·have := h2 h
  exact ⟨by omega, by omega⟩
set_option maxRecDepth 100000 in
set_option maxHeartbeats 1000000 in
theorem divides_any (x y : Int) (hx : In64 x) (hy : In64 y) (y0 : y ≠ 0) (hn : ¬ (x = -9223372036854775808 ∧ y = -1)) (w : World) :
  Calls Try.prog 23 #[.int .i64 x, .int .i64 y, .int .i64 (x.tdiv y), .int .i64 (x.tmod y)] w fun e w' => e = .returned (.bool true) ∧ w' = w := by
 have hd := div_facts hx hy y0 hn
 have hP := lawProduct_any (x.tdiv y) y hd.iq hy w
 have hfp : fits (x.tdiv y * y) = true := (fits_iff _).mpr hd.ip
 unfold ProdPost at hP
 rw [hfp] at hP
 generalize x.tdiv y * y = p at *
 generalize x.tdiv y = q at *
 generalize x.tmod y = r at *
 obtain ⟨_, ⟨r1, r2⟩, ⟨p1, p2⟩, hsum, s1, s2, hlt⟩ := hd
 have HS := sum_yes p r ⟨p1, p2⟩ ⟨r1, r2⟩ (by rw [hsum]; exact (fits_iff x).mpr hx) w
 rw [hsum] at HS
 have HP : Hid (Calls Try.prog 22 #[.int .i64 q, .int .i64 y] w fun e w' => ∃ v, In64 v ∧ e = .returned (.tuple #[.int .i64 v, .bool true]) ∧ (true = true → v = p) ∧ w' = w) := hP
 obtain ⟨hx1, hx2⟩ := hx
 obtain ⟨hy1, hy2⟩ := hy
 have hxx : (x != x) = false := by simp
 clear hP hfp hn hsum
 rcases Int.lt_trichotomy y 0 with yy | yy | yy
 ·by_cases rr : 0 < r
  ·have hl : -r > y := by omega
   have x0 : 0 < x := by
    rcases Int.lt_or_le 0 x with h | h
    ·exact h
    ·have := s2 h; omega
   clear s1 s2 hlt
   go_enter Try.func23, Try.ntmps23
   go_wp2_with (first | (go_at_call 22; refine HP.out.mono ?_; rintro e w1 ⟨v, hv, rfl, hve, hw1⟩; rw [hw1, hve rfl]; clear hw1 hve) | (go_at_call 19; refine HS.out.mono ?_; rintro e w2 ⟨rfl, hw2⟩; rw [hw2]; clear hw2))
   all_goals go_ret
   all_goals exact ⟨rv_bool (by first | rfl | (simp; done) | (simp; omega)), rfl⟩
  ·have hl : r > y := by omega
   clear hlt
   go_enter Try.func23, Try.ntmps23
   go_wp2_with (first | (go_at_call 22; refine HP.out.mono ?_; rintro e w1 ⟨v, hv, rfl, hve, hw1⟩; rw [hw1, hve rfl]; clear hw1 hve) | (go_at_call 19; refine HS.out.mono ?_; rintro e w2 ⟨rfl, hw2⟩; rw [hw2]; clear hw2))
   all_goals go_ret
   all_goals exact ⟨rv_bool (by first | rfl | (simp; done) | (simp; omega)), rfl⟩
 ·exact absurd yy y0
 ·by_cases rr : 0 < r
  ·have hl : -r > -y := by omega
   have x0 : 0 < x := by
    rcases Int.lt_or_le 0 x with h | h
    ·exact h
    ·have := s2 h; omega
   clear s1 s2 hlt
   go_enter Try.func23, Try.ntmps23
   go_wp2_with (first | (go_at_call 22; refine HP.out.mono ?_; rintro e w1 ⟨v, hv, rfl, hve, hw1⟩; rw [hw1, hve rfl]; clear hw1 hve) | (go_at_call 19; refine HS.out.mono ?_; rintro e w2 ⟨rfl, hw2⟩; rw [hw2]; clear hw2))
   all_goals go_ret
   all_goals exact ⟨rv_bool (by first | rfl | (simp; done) | (simp; omega)), rfl⟩
  ·have hl : r > -y := by omega
   clear hlt
   go_enter Try.func23, Try.ntmps23
   go_wp2_with (first | (go_at_call 22; refine HP.out.mono ?_; rintro e w1 ⟨v, hv, rfl, hve, hw1⟩; rw [hw1, hve rfl]; clear hw1 hve) | (go_at_call 19; refine HS.out.mono ?_; rintro e w2 ⟨rfl, hw2⟩; rw [hw2]; clear hw2))
   all_goals go_ret
   all_goals exact ⟨rv_bool (by first | rfl | (simp; done) | (simp; omega)), rfl⟩
set_option maxHeartbeats 1000000 in
theorem exact_any (S n : Int) (hn : fits S = true → n = S) (w : World) :
  Calls Try.prog 21 #[vlV (vlOf S), .int .i64 n, .bool (fits S)] w fun e w' => e = .returned (.bool true) ∧ Below w.heap.size w w' := by
 unfold vlOf
 cases hf : fits S
 ·clear hn
  go_enter Try.func21, Try.ntmps21
  go_wp2_with fail
  go_ret
  exact ⟨rfl, (Below.refl _ _).alloc (Nat.le_refl _) _⟩
 ·have hs := hn hf
  subst hs
  go_enter Try.func21, Try.ntmps21
  go_wp2_with fail
  go_ret
  exact ⟨rfl, (Below.refl _ _).alloc (Nat.le_refl _) _⟩
end Go.Proofs.Ytdgmoiflahoihaa
namespace Go.Proofs.Ytdgmoiflahoihaa
open Go.RowKit
set_option linter.unusedSimpArgs false
set_option linter.unusedVariables false
def oneText (e : List UInt8) : List UInt8 := [63, 120, 58, 45, 59, 63, 121, 58, 45, 59, 62, 45] ++ e ++ [59]
theorem ints_two (w : World) (x y : Int) (t : TypeId) : IntsAt (w.alloc (.cells #[.int .i64 x, .int .i64 y] t)) (fun k => k < w.heap.size + 1) (.slice (some ⟨w.heap.size, 0, none⟩) 2 2) [x, y] := by
 refine ⟨⟨some ⟨w.heap.size, 0, none⟩, w.heap.size, 2, rfl, fun i hi => ⟨rfl, by omega, ?_⟩⟩⟩
 match i, hi with
 | 0, _ => simp [go_sem]
 | 1, _ => simp [go_sem]
set_option maxRecDepth 100000 in
set_option maxHeartbeats 1000000 in
theorem single_any (e : ByteArray) (x y : Int) (v : Vl) (w : World) (hx : In64 x) (hy : In64 y) (he : e.size ≤ 300) (hrun : runP (oneText e.data.toList) [x, y] = (0, [⟨0, 10, 0, v⟩])) :
  Calls Try.prog 20 #[.string e, .int .i64 x, .int .i64 y] w fun r w' => r = .returned (.tuple #[vlV v, .bool true]) ∧ Below w.heap.size w w' := by
 have hS : ((⟨#[63, 120, 58, 45, 59, 63, 121, 58, 45, 59, 62, 45]⟩ : ByteArray) ++ e ++ ⟨#[59]⟩).data.toList = oneText e.data.toList := by simp [oneText, ByteArray.data_append]
 have hsz : ((⟨#[63, 120, 58, 45, 59, 63, 121, 58, 45, 59, 62, 45]⟩ : ByteArray) ++ e ++ ⟨#[59]⟩).size ≤ 400 := by
  rw [ByteArray.size_append, ByteArray.size_append]
  have e1 : (⟨#[63, 120, 58, 45, 59, 63, 121, 58, 45, 59, 62, 45]⟩ : ByteArray).size = 12 := rfl
  have e2 : (⟨#[59]⟩ : ByteArray).size = 1 := rfl
  omega
 have hI := ints_two (w.alloc (.cells #[.int .i64 0, .int .i64 0] 45)) x y 3
 rw [show (w.alloc (.cells #[.int .i64 0, .int .i64 0] 45)).heap.size = w.heap.size + 1 by simp] at hI
 generalize hW : (w.alloc (.cells #[.int .i64 0, .int .i64 0] 45)).alloc (.cells #[.int .i64 x, .int .i64 y] 3) = W at *
 have hWs : W.heap.size = w.heap.size + 1 + 1 := by rw [← hW]; simp
 have hBW : Below w.heap.size w W := by
  rw [← hW]
  refine Below.alloc (Below.alloc (Below.refl _ _) (Nat.le_refl _) _) ?_ _
  simp
 have hRes : ResAt W w.heap.size := by
  rw [← hW]
  refine ⟨?_, ?_, fun o => ?_⟩ <;> simp [go_sem]
 generalize hSS : (⟨#[63, 120, 58, 45, 59, 63, 121, 58, 45, 59, 62, 45]⟩ : ByteArray) ++ e ++ ⟨#[59]⟩ = S at *
 have hsl : S.data.toList.length = S.size := by simp
 have hR := tariffRun_any S [x, y] (.slice (some ⟨w.heap.size + 1, 0, none⟩) 2 2) W _ (by unfold maxLen; omega) (fun h hb => parse_ok (by omega) hb) (fun _ => parse_nums _) hI (fun k hk => by omega) (by unfold maxLen; simp) (by intro z hz; simp at hz; rcases hz with rfl | rfl; exact hx; exact hy)
 rw [hS, hrun] at hR
 have HR : Hid (Calls Try.prog 45 #[.string S, .slice (some ⟨w.heap.size + 1, 0, none⟩) 2 2] W (RunPost W (0, [⟨0, 10, 0, v⟩]))) := hR
 have HWe : Hid _ := hW
 have HSe : Hid _ := hSS
 have HBW : Hid (Below w.heap.size w W) := hBW
 have HRes : Hid (ResAt W w.heap.size) := hRes
 clear hR hW hSS hI hS hsz hsl hBW hRes hrun
 go_enter Try.func20, Try.ntmps20
 go_wp2_with fail
 rw [HWe.out, HSe.out]
 refine HR.out.mono ?_
 rintro r w1 ⟨⟨vn, rfl, _, hown⟩, hb⟩
 obtain ⟨g, cap, hvn⟩ := Joins.ownsRow_form hown (by simp)
 subst hvn
 have d0 := hown.cellAt 0 (by simp)
 have d1 := hown.cellAt 1 (by simp)
 have d2 := hown.cellAt 2 (by simp)
 have d3 := hown.cellAt 3 (by simp)
 have d4 := hown.cellAt 4 (by simp)
 simp [ntCells, ntCell] at d0 d1 d2 d3 d4
 obtain ⟨z0, z1, zf⟩ := HRes.out.of_block (hb.block _ (by omega))
 have HB1 : Hid (Below w.heap.size w w1) := HBW.out.trans (hb.mono (by omega))
 have hgl := (hown.lt g rfl).1
 have hne : ¬ g = w.heap.size := by omega
 have hne2 : ¬ w.heap.size = g := by omega
 clear hown hb HR HWe HSe HBW HRes hWs hgl
 go_wp2_with fail
 exact bodyPost_ret (v := .tuple #[vlV v, .bool true]) (by simp [results, Try.results20, go_sem, z0, z1, zf]) rfl ⟨rfl, (HB1.out.setCell (Nat.le_refl _) _).setCell (Nat.le_refl _) _⟩
theorem oneRun {e : List UInt8} {P : List Pt} {x y : Int} {v : Vl} (h1 : (checkP (oneText e)).1 = 0) (h2 : (parseH (oneText e)).2 = [⟨true, 1, 23, 0⟩, ⟨true, 6, 24, 0⟩]) (h3 : (parseR (oneText e)).2 = [(⟨2, 10, 0, 0, 0, P⟩, [], [])]) (h4 : valueV (fillV [⟨true, 1, 23, 0⟩, ⟨true, 6, 24, 0⟩] [x, y] vals0) P = v) : runP (oneText e) [x, y] = (0, [⟨0, 10, 0, v⟩]) := by
 unfold runP
 rw [if_neg (by simpa using h1), h3]
 rw [h2, if_neg (by simp [countF])]
 show ((0 : Int), [Nt.mk 0 10 0 (valueV (fillV [⟨true, 1, 23, 0⟩, ⟨true, 6, 24, 0⟩] [x, y] vals0) P)]) = _
 rw [h4]
theorem run_add (x y : Int) : runP (oneText [120, 43, 121]) [x, y] = (0, [⟨0, 10, 0, vlOf (x + y)⟩]) :=
 oneRun (P := [⟨2, 23⟩, ⟨2, 24⟩, ⟨4, 0⟩]) (by kernel_rfl) (by kernel_rfl) (by kernel_rfl) (by rfl)
theorem run_sub (x y : Int) : runP (oneText [120, 45, 121]) [x, y] = (0, [⟨0, 10, 0, vlOf (x - y)⟩]) :=
 oneRun (P := [⟨2, 23⟩, ⟨2, 24⟩, ⟨5, 0⟩]) (by kernel_rfl) (by kernel_rfl) (by kernel_rfl) (by rfl)
theorem run_mul (x y : Int) : runP (oneText [120, 42, 121]) [x, y] = (0, [⟨0, 10, 0, vlOf (x * y)⟩]) :=
 oneRun (P := [⟨2, 23⟩, ⟨2, 24⟩, ⟨6, 0⟩]) (by kernel_rfl) (by kernel_rfl) (by kernel_rfl) (by rfl)
theorem run_neg (x y : Int) : runP (oneText [45, 120]) [x, y] = (0, [⟨0, 10, 0, vlOf (0 - x)⟩]) :=
 oneRun (P := [⟨2, 23⟩, ⟨3, 0⟩]) (by kernel_rfl) (by kernel_rfl) (by kernel_rfl) (by rfl)
theorem run_less (x y : Int) : runP (oneText [120, 60, 121]) [x, y] = (0, [⟨0, 10, 0, ⟨if x < y then 1 else 0, 0⟩⟩]) :=
 oneRun (P := [⟨2, 23⟩, ⟨2, 24⟩, ⟨9, 0⟩]) (by kernel_rfl) (by kernel_rfl) (by kernel_rfl) (by rfl)
theorem run_same (x y : Int) : runP (oneText [120, 61, 121]) [x, y] = (0, [⟨0, 10, 0, ⟨if x = y then 1 else 0, 0⟩⟩]) :=
 oneRun (P := [⟨2, 23⟩, ⟨2, 24⟩, ⟨10, 0⟩]) (by kernel_rfl) (by kernel_rfl) (by kernel_rfl) (by rfl)
theorem run_quo (x y : Int) : runP (oneText [120, 47, 121]) [x, y] = (0, [⟨0, 10, 0, divV x y⟩]) :=
 oneRun (P := [⟨2, 23⟩, ⟨2, 24⟩, ⟨7, 0⟩]) (by kernel_rfl) (by kernel_rfl) (by kernel_rfl) (by rfl)
theorem run_left (x y : Int) : runP (oneText [120, 37, 121]) [x, y] = (0, [⟨0, 10, 0, remV x y⟩]) :=
 oneRun (P := [⟨2, 23⟩, ⟨2, 24⟩, ⟨8, 0⟩]) (by kernel_rfl) (by kernel_rfl) (by kernel_rfl) (by rfl)
end Go.Proofs.Ytdgmoiflahoihaa
