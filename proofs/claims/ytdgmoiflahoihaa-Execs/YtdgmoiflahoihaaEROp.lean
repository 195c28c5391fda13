import Derived.OwnWalk
import Derived.Test.YtdgmoiflahoihaaERV
import Derived.Test.YtdgmoiflahoihaaRows
import Derived.Test.YtdgmoiflahoihaaEPlain
import Derived.WalkKit
import Derived.WalkSpells
import Derived.WalkLawsBesides
import Derived.Deep.Cut
import Derived.Deep.CutRange

namespace Go.Proofs.Ytdgmoiflahoihaa
open Go.RowKit
set_option linter.unusedSimpArgs false
set_option linter.unusedVariables false
theorem ofInt_back {x : Int} (h : -9223372036854775808 ≤ x ∧ x ≤ 9223372036854775807) : (BitVec.ofInt 64 x).toInt = x := by
 rw [BitVec.toInt_ofInt]
 rw [Int.bmod_def]
 have e : ((2 ^ 64 : Nat) : Int) = 18446744073709551616 := by decide
 rw [e]
 split <;> omega
theorem wrap_toNat (v : BitVec 64) : IntKind.i64.wrap (v.toNat : Int) = v.toInt := by
 rw [IntKind.wrap_i64, BitVec.toInt_eq_toNat_bmod, Int.bmod_def]
 have h := v.isLt
 have e : ((2 ^ 64 : Nat) : Int) = 18446744073709551616 := by decide
 rw [e]
 have h2 : (v.toNat : Int) < 18446744073709551616 := by
  have : v.toNat < 18446744073709551616 := h
  omega
 split <;> omega
theorem toInt_in (v : BitVec 64) : -9223372036854775808 ≤ v.toInt ∧ v.toInt ≤ 9223372036854775807 := by
 have h1 := BitVec.le_toInt v
 have h2 := BitVec.toInt_lt (x := v)
 have e : (2 : Int) ^ (64 - 1) = 9223372036854775808 := by decide
 rw [e] at h1 h2
 omega
theorem xor_neg {x y : Int} (hx : -9223372036854775808 ≤ x ∧ x ≤ 9223372036854775807) (hy : -9223372036854775808 ≤ y ∧ y ≤ 9223372036854775807) : (-9223372036854775808 ≤ bits .xor .i64 x y ∧ bits .xor .i64 x y ≤ 9223372036854775807) ∧ (bits .xor .i64 x y < 0 ↔ ¬ (x < 0 ↔ y < 0)) := by
 have e : bits .xor .i64 x y = (BitVec.ofInt 64 x ^^^ BitVec.ofInt 64 y).toInt := wrap_toNat _
 rw [e]
 refine ⟨toInt_in _, ?_⟩
 have m : (BitVec.ofInt 64 x ^^^ BitVec.ofInt 64 y).msb = ((BitVec.ofInt 64 x).msb ^^ (BitVec.ofInt 64 y).msb) := BitVec.msb_xor
 rw [BitVec.msb_eq_toInt, BitVec.msb_eq_toInt, BitVec.msb_eq_toInt, ofInt_back hx, ofInt_back hy] at m
 have m2 := congrArg (· = true) m
 simp only [decide_eq_true_eq, eq_iff_iff] at m2
 rw [m2]
 by_cases a : x < 0 <;> by_cases b : y < 0 <;> simp [a, b]
theorem and_neg {x y : Int} (hx : -9223372036854775808 ≤ x ∧ x ≤ 9223372036854775807) (hy : -9223372036854775808 ≤ y ∧ y ≤ 9223372036854775807) : (-9223372036854775808 ≤ bits .and .i64 x y ∧ bits .and .i64 x y ≤ 9223372036854775807) ∧ (bits .and .i64 x y < 0 ↔ (x < 0 ∧ y < 0)) := by
 have e : bits .and .i64 x y = (BitVec.ofInt 64 x &&& BitVec.ofInt 64 y).toInt := wrap_toNat _
 rw [e]
 refine ⟨toInt_in _, ?_⟩
 have m : (BitVec.ofInt 64 x &&& BitVec.ofInt 64 y).msb = ((BitVec.ofInt 64 x).msb && (BitVec.ofInt 64 y).msb) := BitVec.msb_and
 rw [BitVec.msb_eq_toInt, BitVec.msb_eq_toInt, BitVec.msb_eq_toInt, ofInt_back hx, ofInt_back hy] at m
 have m2 := congrArg (· = true) m
 simp only [Bool.and_eq_true, decide_eq_true_eq, eq_iff_iff] at m2
 exact m2
theorem wrap64_lim (x : Int) : -9223372036854775808 ≤ wrap64 x ∧ wrap64 x ≤ 9223372036854775807 := by unfold wrap64; omega
set_option maxHeartbeats 1000000 in
theorem added_any (a b : Int) (ha : -9223372036854775808 ≤ a ∧ a ≤ 9223372036854775807) (hb : -9223372036854775808 ≤ b ∧ b ≤ 9223372036854775807) (w : World) :
  Calls Try.prog 118 #[.int .i64 a, .int .i64 b] w fun e w' => e = .returned (.tuple #[.int .i64 (wrap64 (a + b)), .bool (fits (a + b))]) ∧ w' = w := by
 have hw := wrap64_lim (a + b)
 have hf : fits (a + b) = true ↔ wrap64 (a + b) = a + b := by
  rw [fits_iff]
  unfold wrap64
  omega
 have hwd : wrap64 (a + b) = a + b ∨ wrap64 (a + b) = a + b - 18446744073709551616 ∨ wrap64 (a + b) = a + b + 18446744073709551616 := by unfold wrap64; omega
 have HW : Hid (∀ x : Int, IntKind.i64.wrap x = wrap64 x) := fun x => by rw [IntKind.wrap_i64]; unfold wrap64; omega
 have hk : decide (0 ≤ bits .and .i64 (bits .xor .i64 a (wrap64 (a + b))) (bits .xor .i64 b (wrap64 (a + b)))) = fits (a + b) := by
  obtain ⟨x1, x2⟩ := xor_neg ha hw
  obtain ⟨y1, y2⟩ := xor_neg hb hw
  obtain ⟨z1, z2⟩ := and_neg x1 y1
  rw [Bool.eq_iff_iff, decide_eq_true_iff, hf]
  clear hf HW
  generalize wrap64 (a + b) = s at *
  generalize bits .and .i64 (bits .xor .i64 a s) (bits .xor .i64 b s) = z at *
  generalize bits .xor .i64 a s = x at *
  generalize bits .xor .i64 b s = y at *
  omega
 go_enter Try.func118, Try.ntmps118
 go_wp2_with fail
 go_ret2
 exact ⟨rfl, rfl⟩
set_option maxHeartbeats 1000000 in
theorem taken_any (a b : Int) (ha : -9223372036854775808 ≤ a ∧ a ≤ 9223372036854775807) (hb : -9223372036854775808 ≤ b ∧ b ≤ 9223372036854775807) (w : World) :
  Calls Try.prog 119 #[.int .i64 a, .int .i64 b] w fun e w' => e = .returned (.tuple #[.int .i64 (wrap64 (a - b)), .bool (fits (a - b))]) ∧ w' = w := by
 have hw := wrap64_lim (a - b)
 have hf : fits (a - b) = true ↔ wrap64 (a - b) = a - b := by
  rw [fits_iff]
  unfold wrap64
  omega
 have hwd : wrap64 (a - b) = a - b ∨ wrap64 (a - b) = a - b - 18446744073709551616 ∨ wrap64 (a - b) = a - b + 18446744073709551616 := by unfold wrap64; omega
 have HW : Hid (∀ x : Int, IntKind.i64.wrap x = wrap64 x) := fun x => by rw [IntKind.wrap_i64]; unfold wrap64; omega
 have hk : decide (0 ≤ bits .and .i64 (bits .xor .i64 a b) (bits .xor .i64 a (wrap64 (a - b)))) = fits (a - b) := by
  obtain ⟨x1, x2⟩ := xor_neg ha hb
  obtain ⟨y1, y2⟩ := xor_neg ha hw
  obtain ⟨z1, z2⟩ := and_neg x1 y1
  rw [Bool.eq_iff_iff, decide_eq_true_iff, hf]
  clear hf HW
  generalize wrap64 (a - b) = s at *
  generalize bits .and .i64 (bits .xor .i64 a b) (bits .xor .i64 a s) = z at *
  generalize bits .xor .i64 a b = x at *
  generalize bits .xor .i64 a s = y at *
  omega
 go_enter Try.func119, Try.ntmps119
 go_wp2_with fail
 go_ret2
 exact ⟨rfl, rfl⟩
theorem rv_int {k : IntKind} {a b : Int} (h : a = b) : Ending.returned (.int k a) = .returned (.int k b) := by rw [h]
theorem rv_nb {a b : Int} {p q : Bool} (h : a = b) (k : p = q) : Ending.returned (.tuple #[.int .i64 a, .bool p]) = .returned (.tuple #[.int .i64 b, .bool q]) := by rw [h, k]
theorem u64_wrap (x : Int) : IntKind.u64.wrap x = x % 18446744073709551616 := by
 simp [IntKind.wrap, IntKind.bits, IntKind.signed]
set_option maxHeartbeats 1000000 in
theorem sized_any (a : Int) (ha : -9223372036854775808 ≤ a ∧ a ≤ 9223372036854775807) (w : World) :
  Calls Try.prog 127 #[.int .i64 a] w fun e w' => e = .returned (.int .u64 (a.natAbs : Nat)) ∧ w' = w := by
 obtain ⟨h1, h2⟩ := ha
 by_cases a0 : a < 0
 ·obtain ⟨n, rfl⟩ : ∃ n : Nat, a = -(n : Int) := ⟨a.natAbs, by omega⟩
  have e : (-(n : Int)).natAbs = n := by omega
  rw [e]
  go_enter Try.func127, Try.ntmps127
  go_wp2_with fail
  go_ret
  refine ⟨rv_int ?_, rfl⟩
  simp only [u64_wrap]
  omega
 ·obtain ⟨n, rfl⟩ : ∃ n : Nat, a = (n : Int) := ⟨a.natAbs, by omega⟩
  have e : (n : Int).natAbs = n := by omega
  rw [e]
  go_enter Try.func127, Try.ntmps127
  go_wp2_with fail
  go_ret
  refine ⟨rv_int ?_, rfl⟩
  try simp only [u64_wrap]
  try omega
def SizedIs (a : Int) (n : Nat) : Prop := ∀ w, Calls Try.prog 127 #[.int .i64 a] w fun e w' => e = .returned (.int .u64 n) ∧ w' = w
theorem sized_is {a : Int} {n : Nat} (ha : -9223372036854775808 ≤ a ∧ a ≤ 9223372036854775807) (hn : a.natAbs = n) : Hid (SizedIs a n) := fun w => by
 have k := sized_any a ha w
 rw [hn] at k
 exact k
set_option maxHeartbeats 1000000 in
theorem signed_plus (n : Int) (h0 : 0 ≤ n) (hn : n < 18446744073709551616) (w : World) :
  Calls Try.prog 126 #[.int .u64 n, .bool false] w fun e w' => e = .returned (.tuple #[.int .i64 (wrap64 n), .bool (decide (n < 9223372036854775808))]) ∧ w' = w := by
 go_enter Try.func126, Try.ntmps126
 go_wp2_with fail
 go_ret2
 exact ⟨rfl, rfl⟩
set_option maxHeartbeats 1000000 in
theorem signed_minus (n : Int) (h0 : 0 ≤ n) (hn : n < 18446744073709551616) (w : World) :
  Calls Try.prog 126 #[.int .u64 n, .bool true] w fun e w' => e = .returned (.tuple #[.int .i64 (wrap64 (-n)), .bool (decide (n ≤ 9223372036854775808))]) ∧ w' = w := by
 go_enter Try.func126, Try.ntmps126
 go_wp2_with fail
 go_ret2
 refine ⟨rv_nb ?_ rfl, rfl⟩
 simp only [u64_wrap, wrap64]
 omega
theorem signed_any (n : Int) (s : Bool) (h0 : 0 ≤ n) (hn : n < 18446744073709551616) (w : World) :
  Calls Try.prog 126 #[.int .u64 n, .bool s] w fun e w' => e = .returned (.tuple #[.int .i64 (wrap64 (if s then -n else n)), .bool (if s then decide (n ≤ 9223372036854775808) else decide (n < 9223372036854775808))]) ∧ w' = w := by
 cases s
 ·exact signed_plus n h0 hn w
 ·exact signed_minus n h0 hn w
theorem mul_sizes (a b : Int) : (a * b).natAbs = a.natAbs * b.natAbs ∧ ((a < 0 ↔ b < 0) → 0 ≤ a * b) ∧ (¬ (a < 0 ↔ b < 0) → a * b ≤ 0) := by
 refine ⟨Int.natAbs_mul a b, fun h => ?_, fun h => ?_⟩
 ·by_cases ha : a < 0
  ·exact Int.mul_nonneg_of_nonpos_of_nonpos (by omega) (by omega)
  ·exact Int.mul_nonneg (by omega) (by omega)
 ·by_cases ha : a < 0
  ·exact Int.mul_nonpos_of_nonpos_of_nonneg (by omega) (by omega)
  ·exact Int.mul_nonpos_of_nonneg_of_nonpos (by omega) (by omega)
set_option maxRecDepth 100000 in
set_option maxHeartbeats 1000000 in
theorem timed_any (a b : Int) (ha : -9223372036854775808 ≤ a ∧ a ≤ 9223372036854775807) (hb : -9223372036854775808 ≤ b ∧ b ≤ 9223372036854775807) (w : World) :
  Calls Try.prog 120 #[.int .i64 a, .int .i64 b] w fun e w' => ∃ v, e = .returned (.tuple #[.int .i64 v, .bool (fits (a * b))]) ∧ (fits (a * b) = true → v = a * b) ∧ w' = w := by
 obtain ⟨m1, m2, m3⟩ := mul_sizes a b
 have HF := fits_iff (a * b)
 have hp : a.natAbs ≤ 9223372036854775808 := by omega
 have hq : b.natAbs ≤ 9223372036854775808 := by omega
 have hdv : a.natAbs ≠ 0 → (9223372036854775808 / a.natAbs < b.natAbs ↔ 9223372036854775808 < a.natAbs * b.natAbs) := fun h => by
  rw [Nat.div_lt_iff_lt_mul (by omega), Nat.mul_comm]
 have ta : decide (a < 0) = true ∨ decide (a < 0) = false := by cases decide (a < 0) <;> simp
 have tb : decide (b < 0) = true ∨ decide (b < 0) = false := by cases decide (b < 0) <;> simp
 generalize hpe : a.natAbs = p at *
 generalize hqe : b.natAbs = q at *
 generalize a * b = ab at *
 have HA := sized_is ha hpe
 have HB := sized_is hb hqe
 have hsg : (decide (a < 0) != decide (b < 0)) = true ∨ (decide (a < 0) != decide (b < 0)) = false := by cases (decide (a < 0) != decide (b < 0)) <;> simp
 have hss : (decide (a < 0) != decide (b < 0)) = false ↔ (a < 0 ↔ b < 0) := by by_cases x : a < 0 <;> by_cases y : b < 0 <;> simp [x, y]
 by_cases hbig : 0 < p ∧ 9223372036854775808 / p < q
 ·obtain ⟨hb1, hb2⟩ := hbig
  have h1 := (hdv (by omega)).mp hb2
  have hf : fits ab = false := by
   rw [fits_not]
   omega
  have hI : (9223372036854775808 : Int) / (p : Int) < (q : Int) := by
   have := Int.ofNat_lt.mpr hb2
   rw [Int.natCast_ediv] at this
   exact this
  rw [hf]
  clear m1 m2 m3 HF hdv hpe hqe ta tb hsg hss h1 ha hb
  go_enter Try.func120, Try.ntmps120
  go_upto_region 2 with (first | (go_at_call 127; refine (HA.out _).mono ?_; rintro e w1 ⟨rfl, hw1⟩; rw [hw1]; clear hw1))
  go_upto_region 3 with (first | (go_at_call 127; refine (HB.out _).mono ?_; rintro e w1 ⟨rfl, hw1⟩; rw [hw1]; clear hw1))
  go_wp2_with fail
  go_ret2
  exact ⟨0, rfl, fun h => (by cases h), rfl⟩
 ·have hpq : p * q ≤ 9223372036854775808 := by
   by_cases h0 : p = 0
   ·subst h0; simp
   ·have := hdv h0
    omega
  have hI : 0 < p → ¬ (9223372036854775808 : Int) / (p : Int) < (q : Int) := fun h0 => by
   have h2 : ¬ 9223372036854775808 / p < q := fun h => hbig ⟨h0, h⟩
   intro h3
   apply h2
   have h4 : ((9223372036854775808 / p : Nat) : Int) < (q : Int) := by rw [Int.natCast_ediv]; exact h3
   exact Int.ofNat_lt.mp h4
  have hm0 : 0 ≤ (p : Int) * (q : Int) := Int.mul_nonneg (by omega) (by omega)
  have hm1 : (p : Int) * (q : Int) ≤ 9223372036854775808 := by
   have : ((p * q : Nat) : Int) ≤ 9223372036854775808 := by omega
   rwa [Int.natCast_mul] at this
  have hme : (p : Int) * (q : Int) = (ab.natAbs : Int) := by rw [m1, Int.natCast_mul]
  generalize hpr : (p : Int) * (q : Int) = pr at *
  have hres : ∀ s : Bool, (decide (a < 0) != decide (b < 0)) = s → (if s then decide (pr ≤ 9223372036854775808) else decide (pr < 9223372036854775808)) = fits ab ∧ (fits ab = true → wrap64 (if s then -pr else pr) = ab) := by
   intro s hs
   cases s
   ·have h2 := m2 (hss.mp hs)
    simp only [Bool.false_eq_true, if_false]
    refine ⟨?_, fun hf => ?_⟩
    ·rw [Bool.eq_iff_iff, decide_eq_true_iff, HF]; omega
    ·have := HF.mp hf
     unfold wrap64
     omega
   ·have h2 := m3 (fun k => by have := hss.mpr k; rw [hs] at this; cases this)
    simp only [if_true]
    refine ⟨?_, fun hf => ?_⟩
    ·rw [Bool.eq_iff_iff, decide_eq_true_iff, HF]; omega
    ·have := HF.mp hf
     unfold wrap64
     omega
  have hno : decide ((p : Int) > 0) = true → decide ((9223372036854775808 : Int) / (p : Int) < (q : Int)) = false := fun h => by
   simp at h
   have := hI (by omega)
   simpa using this
  generalize hse : (decide (a < 0) != decide (b < 0)) = s at *
  obtain ⟨r1, r2⟩ := hres s rfl
  generalize hve : wrap64 (if s then -pr else pr) = v at r2
  have HSG : Hid (∀ w, Calls Try.prog 126 #[.int .u64 pr, .bool (!(decide (a < 0) == decide (b < 0)))] w fun e w' => e = .returned (.tuple #[.int .i64 v, .bool (fits ab)]) ∧ w' = w) := fun w => by
   have k := signed_any pr s hm0 (by omega) w
   rw [r1, hve] at k
   have hsx : (!(decide (a < 0) == decide (b < 0))) = s := hse
   rw [hsx]
   exact k
  have HR2 : Hid _ := r2
  clear m1 m2 m3 HF hdv hpe hqe ta tb hsg hss ha hb hres r1 r2 hI hme hbig hve
  by_cases h0 : 0 < p
  ·have hq2 : decide ((9223372036854775808 : Int) / (p : Int) < (q : Int)) = false := hno (by simp; omega)
   have hp1 : decide ((0 : Int) < (p : Int)) = true := by simp; omega
   clear hno
   go_enter Try.func120, Try.ntmps120
   go_upto_region 2 with (first | (go_at_call 127; refine (HA.out _).mono ?_; rintro e w1 ⟨rfl, hw1⟩; rw [hw1]; clear hw1))
   go_upto_region 3 with (first | (go_at_call 127; refine (HB.out _).mono ?_; rintro e w1 ⟨rfl, hw1⟩; rw [hw1]; clear hw1))
   go_wp2_with (first | (go_at_call 126; refine (HSG.out _).mono ?_; rintro e w2 ⟨rfl, hw2⟩; rw [hw2]; clear hw2))
   go_ret2
   exact ⟨_, rfl, HR2.out, rfl⟩
  ·have hp1 : decide ((0 : Int) < (p : Int)) = false := by simp; omega
   clear hno
   go_enter Try.func120, Try.ntmps120
   go_upto_region 2 with (first | (go_at_call 127; refine (HA.out _).mono ?_; rintro e w1 ⟨rfl, hw1⟩; rw [hw1]; clear hw1))
   go_upto_region 3 with (first | (go_at_call 127; refine (HB.out _).mono ?_; rintro e w1 ⟨rfl, hw1⟩; rw [hw1]; clear hw1))
   go_wp2_with (first | (go_at_call 126; refine (HSG.out _).mono ?_; rintro e w2 ⟨rfl, hw2⟩; rw [hw2]; clear hw2))
   go_ret2
   exact ⟨_, rfl, HR2.out, rfl⟩
theorem div_sizes (a b : Int) : (a.tdiv b).natAbs = a.natAbs / b.natAbs ∧ ((a < 0 ↔ b < 0) → 0 ≤ a.tdiv b) ∧ (¬ (a < 0 ↔ b < 0) → a.tdiv b ≤ 0)
  ∧ (a.tmod b).natAbs = a.natAbs % b.natAbs ∧ (a < 0 → a.tmod b ≤ 0) ∧ (¬ a < 0 → 0 ≤ a.tmod b) := by
 have nn : ∀ x y : Int, 0 ≤ x → 0 ≤ y → 0 ≤ x.tdiv y := fun x y hx hy => Int.tdiv_nonneg hx hy
 refine ⟨Int.natAbs_tdiv a b, fun h => ?_, fun h => ?_, Int.natAbs_tmod a b, fun h => ?_, fun h => ?_⟩
 ·by_cases ha : a < 0
  ·have k := nn (-a) (-b) (by omega) (by omega)
   rw [Int.neg_tdiv, Int.tdiv_neg] at k
   omega
  ·exact nn a b (by omega) (by omega)
 ·by_cases ha : a < 0
  ·have k := nn (-a) b (by omega) (by omega)
   rw [Int.neg_tdiv] at k
   omega
  ·have k := nn a (-b) (by omega) (by omega)
   rw [Int.tdiv_neg] at k
   omega
 ·have k := Int.tmod_nonneg (a := -a) b (by omega)
  rw [Int.neg_tmod] at k
  omega
 ·exact Int.tmod_nonneg b (by omega)
theorem signed_is {ab n : Int} {s : Bool} (hn : n = (ab.natAbs : Int)) (hl : n ≤ 9223372036854775808) (h0 : s = false → 0 ≤ ab) (h1 : s = true → ab ≤ 0) :
  ∃ v, (fits ab = true → v = ab) ∧ ∀ w, Calls Try.prog 126 #[.int .u64 n, .bool s] w fun e w' => e = .returned (.tuple #[.int .i64 v, .bool (fits ab)]) ∧ w' = w := by
 have HF := fits_iff ab
 refine ⟨wrap64 (if s then -n else n), fun hf => ?_, fun w => ?_⟩
 ·have := HF.mp hf
  cases s
  ·have := h0 rfl
   simp only [Bool.false_eq_true, if_false]
   unfold wrap64
   omega
  ·have := h1 rfl
   simp only [if_true]
   unfold wrap64
   omega
 ·have k := signed_any n s (by omega) (by omega) w
  have e : (if s then decide (n ≤ 9223372036854775808) else decide (n < 9223372036854775808)) = fits ab := by
   cases s
   ·have := h0 rfl
    simp only [Bool.false_eq_true, if_false]
    rw [Bool.eq_iff_iff, decide_eq_true_iff, HF]; omega
   ·have := h1 rfl
    simp only [if_true]
    rw [Bool.eq_iff_iff, decide_eq_true_iff, HF]; omega
  rw [e] at k
  exact k
set_option maxRecDepth 100000 in
set_option maxHeartbeats 1000000 in
theorem shared_any (a b : Int) (ha : -9223372036854775808 ≤ a ∧ a ≤ 9223372036854775807) (hb : -9223372036854775808 ≤ b ∧ b ≤ 9223372036854775807) (hb0 : b ≠ 0) (w : World) :
  Calls Try.prog 122 #[.int .i64 a, .int .i64 b] w fun e w' => ∃ v, e = .returned (.tuple #[.int .i64 v, .int .i64 (a.tmod b), .bool (fits (a.tdiv b))]) ∧ (fits (a.tdiv b) = true → v = a.tdiv b) ∧ w' = w := by
 obtain ⟨m1, m2, m3, m4, m5, m6⟩ := div_sizes a b
 have hp : a.natAbs ≤ 9223372036854775808 := by omega
 have hq : b.natAbs ≤ 9223372036854775808 := by omega
 have hq0 : 0 < b.natAbs := by omega
 have hss : (!(decide (a < 0) == decide (b < 0))) = false ↔ (a < 0 ↔ b < 0) := by by_cases x : a < 0 <;> by_cases y : b < 0 <;> simp [x, y]
 have hl1 : a.natAbs / b.natAbs ≤ a.natAbs := Nat.div_le_self _ _
 have hl2 : a.natAbs % b.natAbs < b.natAbs := Nat.mod_lt _ hq0
 have hl3 : a.natAbs % b.natAbs ≤ a.natAbs := Nat.mod_le _ _
 have hfm : fits (a.tmod b) = true := by rw [fits_iff]; omega
 generalize hpe : a.natAbs = p at *
 generalize hqe : b.natAbs = q at *
 generalize a.tdiv b = ab at *
 generalize a.tmod b = am at *
 have HA := sized_is ha hpe
 have HB := sized_is hb hqe
 obtain ⟨v, hv, hs⟩ := signed_is (ab := ab) (n := (p : Int) / (q : Int)) (s := !(decide (a < 0) == decide (b < 0))) (by rw [m1, Int.natCast_ediv]) (by
  have : ((p / q : Nat) : Int) ≤ 9223372036854775808 := by omega
  rwa [Int.natCast_ediv] at this) (fun h => m2 (hss.mp h)) (fun h => m3 (fun k => by have := hss.mpr k; rw [h] at this; cases this))
 obtain ⟨v2, hv2, hs2⟩ := signed_is (ab := am) (n := (p : Int) % (q : Int)) (s := decide (a < 0)) (by rw [m4, Int.natCast_emod]) (by
  have : ((p % q : Nat) : Int) ≤ 9223372036854775808 := by omega
  rwa [Int.natCast_emod] at this) (fun h => m6 (by simpa using h)) (fun h => m5 (by simpa using h))
 have e2 := hv2 hfm
 subst e2
 have hw1 : IntKind.u64.wrap ((p : Int) / (q : Int)) = (p : Int) / (q : Int) := by
  rw [u64_wrap, ← Int.natCast_ediv]
  omega
 have HS1 : Hid (∀ w, Calls Try.prog 126 #[.int .u64 (IntKind.u64.wrap ((p : Int) / (q : Int))), .bool (!(decide (a < 0) == decide (b < 0)))] w fun e w' => e = .returned (.tuple #[.int .i64 v, .bool (fits ab)]) ∧ w' = w) := by rw [hw1]; exact hs
 have HS2 : Hid (∀ w, Calls Try.prog 126 #[.int .u64 ((p : Int) % (q : Int)), .bool (decide (a < 0))] w fun e w' => e = .returned (.tuple #[.int .i64 v2, .bool (fits v2)]) ∧ w' = w) := hs2
 have HV : Hid (fits ab = true → v = ab) := hv
 have hqi : (0 : Int) < (q : Int) := by omega
 clear m1 m2 m3 m4 m5 m6 hss hl1 hl2 hl3 hfm hpe hqe hv hs hv2 hs2 ha hb hb0 hw1
 go_enter Try.func122, Try.ntmps122
 go_upto_region 2 with (first | (go_at_call 127; refine (HA.out _).mono ?_; rintro e w1 ⟨rfl, hw1⟩; rw [hw1]; clear hw1))
 go_upto_region 3 with (first | (go_at_call 127; refine (HB.out _).mono ?_; rintro e w1 ⟨rfl, hw1⟩; rw [hw1]; clear hw1))
 go_upto_region 4 with (first | (go_at_call 126; refine (HS1.out _).mono ?_; rintro e w1 ⟨rfl, hw1⟩; rw [hw1]; clear hw1))
 go_wp2_with (first | (go_at_call 126; refine (HS2.out _).mono ?_; rintro e w1 ⟨rfl, hw1⟩; rw [hw1]; clear hw1))
 refine bodyPost_ret (results_tmp3 rfl _ _ _) rfl ?_
 exact ⟨_, rfl, HV.out, rfl⟩
end Go.Proofs.Ytdgmoiflahoihaa
