import Derived.Test.YtnaonmclmmoipaaRows
import Derived.WalkKit
import Derived.WalkSpells
import Derived.WalkLawsBesides

/- Instructions, plain: which are a program. -/
namespace Go.Proofs.Ytnaonmclmmoipaa

/-- An instruction. -/
structure Ic where
  op : Int
  a : Int
  b : Int
  c : Int

def bel (a n : Int) : Bool := decide (0 ≤ a) && decide (a < n)

/-- May an instruction stand among n? -/
def fitsI (x : Ic) (n : Int) : Bool :=
  if x.op = 0 then x.a == 0 && x.b == 0 && x.c == 0
  else if x.op = 1 then bel x.a 100 && x.c == 0
  else if x.op = 2 ∨ x.op = 3 then bel x.a 100 && bel x.b 100 && x.c == 0
  else if 4 ≤ x.op ∧ x.op ≤ 10 then bel x.a 100 && bel x.b 100 && bel x.c 100
  else if x.op = 11 then bel x.a 100 && bel x.b 26 && x.c == 0
  else if x.op = 12 then bel x.a n && x.b == 0 && x.c == 0
  else if x.op = 13 then bel x.a 100 && bel x.b n && bel x.c n
  else if x.op = 14 ∨ x.op = 15 then bel x.a 401 && bel x.b 16 && bel x.c 100
  else false

def endsI (x : Ic) : Bool := x.op == 0 || x.op == 12

/-- The first instruction that cannot stand. -/
def vloop (n : Nat) : List Ic → Nat → Int × Int
  | [], _ => (0, 0)
  | x :: r, k => if fitsI x n && (!r.isEmpty || endsI x) then vloop n r (k + 1) else (7, (k : Int))

/-- The answer of Valid. -/
def validI (l : List Ic) : Int × Int :=
  if 2000 < l.length then (4, 0) else if l.length = 0 then (7, 0) else vloop l.length l 0

/-- One above the greatest; 0: any. -/
def boundsI (op n : Int) : Int × Int × Int :=
  if op = 0 then (1, 1, 1) else if op = 1 then (100, 0, 1) else if op = 2 ∨ op = 3 then (100, 100, 1) else if op = 11 then (100, 26, 1)
  else if op = 12 then (n, 1, 1) else if op = 13 then (100, n, n) else if op = 14 ∨ op = 15 then (401, 16, 100) else (100, 100, 100)

def belowI (a n : Int) : Bool := n == 0 || bel a n

theorem bel_one (a : Int) : bel a 1 = (a == 0) := by
  unfold bel
  rw [Bool.eq_iff_iff]
  simp
  omega

theorem belowI_pos {a n : Int} (h : n ≠ 0) : belowI a n = bel a n := by
  unfold belowI
  simp [h]

theorem fits_bounds (x : Ic) (n : Int) (hn : n ≠ 0) : fitsI x n = (decide (0 ≤ x.op) && decide (x.op ≤ 15) && belowI x.a (boundsI x.op n).1 && belowI x.b (boundsI x.op n).2.1 && belowI x.c (boundsI x.op n).2.2) := by
  unfold fitsI boundsI
  by_cases h0 : x.op = 0
  · simp [h0, belowI_pos, bel_one]
  by_cases h1 : x.op = 1
  · simp [h1, belowI_pos, bel_one, show belowI x.b 0 = true from rfl]
  by_cases h2 : x.op = 2 ∨ x.op = 3
  · have e1 : decide (0 ≤ x.op) = true := by simp; omega
    have e2 : decide (x.op ≤ 15) = true := by simp; omega
    simp [h0, h1, h2, e1, e2, belowI_pos, bel_one]
  by_cases h4 : 4 ≤ x.op ∧ x.op ≤ 10
  · have e1 : decide (0 ≤ x.op) = true := by simp; omega
    have e2 : decide (x.op ≤ 15) = true := by simp; omega
    have e3 : ¬ x.op = 11 := by omega
    have e4 : ¬ x.op = 12 := by omega
    have e5 : ¬ x.op = 13 := by omega
    have e6 : ¬ (x.op = 14 ∨ x.op = 15) := by omega
    simp only [h0, h1, h2, h4, e1, e2, e3, e4, e5, e6, if_false, and_self, if_true, Bool.true_and, belowI_pos (show (100 : Int) ≠ 0 by decide)]
  by_cases h5 : x.op = 11
  · simp [h5, belowI_pos, bel_one]
  by_cases h6 : x.op = 12
  · simp [h6, belowI_pos, bel_one, belowI_pos hn]
  by_cases h7 : x.op = 13
  · simp [h7, belowI_pos, belowI_pos hn]
  by_cases h8 : x.op = 14 ∨ x.op = 15
  · have e1 : decide (0 ≤ x.op) = true := by simp; omega
    have e2 : decide (x.op ≤ 15) = true := by simp; omega
    simp only [h0, h1, h2, h4, h5, h6, h7, h8, e1, e2, if_false, if_true, Bool.true_and, belowI_pos (show (100 : Int) ≠ 0 by decide), belowI_pos (show (401 : Int) ≠ 0 by decide), belowI_pos (show (16 : Int) ≠ 0 by decide)]
  · have e1 : (decide (0 ≤ x.op) && decide (x.op ≤ 15)) = false := by
      simp only [Bool.and_eq_false_iff, decide_eq_false_iff_not]
      omega
    simp only [h0, h1, h2, h4, h5, h6, h7, h8, e1, if_false, Bool.false_and]

theorem vloop_step {n : Nat} {l : List Ic} {k : Nat} (hk : k < l.length) (h : fitsI l[k] n = true) (h2 : k + 1 < l.length ∨ endsI l[k] = true) : vloop n (l.drop k) k = vloop n (l.drop (k + 1)) (k + 1) := by
  rw [List.drop_eq_getElem_cons hk]
  have e : (!(l.drop (k + 1)).isEmpty || endsI l[k]) = true := by
    rcases h2 with h2 | h2
    · have : (l.drop (k + 1)).isEmpty = false := by
        rw [List.isEmpty_eq_false_iff]
        intro c
        rw [List.drop_eq_nil_iff] at c
        omega
      rw [this]; rfl
    · rw [h2]; simp
  show (if fitsI l[k] n && (!(l.drop (k + 1)).isEmpty || endsI l[k]) then _ else _) = _
  rw [h, e]
  rfl

theorem vloop_bad {n : Nat} {l : List Ic} {k : Nat} (hk : k < l.length) (h : fitsI l[k] n = false) : vloop n (l.drop k) k = (7, (k : Int)) := by
  rw [List.drop_eq_getElem_cons hk]
  show (if fitsI l[k] n && _ then _ else _) = _
  rw [h]
  rfl

theorem vloop_end {n : Nat} {l : List Ic} {k : Nat} (hk : k + 1 = l.length) (h : endsI l[k] = false) : vloop n (l.drop k) k = (7, (k : Int)) := by
  rw [List.drop_eq_getElem_cons (by omega)]
  have : l.drop (k + 1) = [] := by rw [List.drop_eq_nil_iff]; omega
  rw [this]
  show (if fitsI l[k] n && (!true || endsI l[k]) then _ else _) = _
  rw [h]
  simp

end Go.Proofs.Ytnaonmclmmoipaa

namespace Go.Proofs.Ytnaonmclmmoipaa
open Go.RowKit
set_option linter.unusedSimpArgs false
set_option linter.unusedVariables false

@[reducible] def icCells (x : Ic) : Array Value := #[.int .i64 x.op, .int .i64 x.a, .int .i64 x.b, .int .i64 x.c]
@[reducible] def icV (x : Ic) : Value := .agg (icCells x)

set_option maxHeartbeats 400000 in
theorem isBelow_any (a n : Int) (w : World) :
    Calls Try.prog 85 #[.int .i64 a, .int .i64 n] w fun e w' => e = .returned (.bool (bel a n)) ∧ w' = w := by
  go_enter Try.func85, Try.ntmps85
  go_wp2
  all_goals go_ret
  all_goals (refine ⟨?_, rfl⟩; simp [bel, *]; try omega)

set_option maxHeartbeats 400000 in
theorem isReg_any (a : Int) (w : World) :
    Calls Try.prog 84 #[.int .i64 a] w fun e w' => e = .returned (.bool (bel a 100)) ∧ w' = w := by
  go_enter Try.func84, Try.ntmps84
  go_wp2_with (go_at_call 85; refine (isBelow_any a 100 _).mono ?_; rintro e w1 ⟨rfl, rfl⟩)
  go_ret
  exact ⟨rfl, rfl⟩

set_option maxHeartbeats 400000 in
theorem endsCode_any (x : Ic) (w : World) :
    Calls Try.prog 58 #[icV x] w fun e w' => e = .returned (.bool (endsI x)) ∧ w' = w.alloc (.cells (icCells x) 67) := by
  go_enter Try.func58, Try.ntmps58
  go_wp2
  all_goals go_ret
  all_goals (refine ⟨?_, rfl⟩; simp [endsI, *])

set_option maxHeartbeats 400000 in
theorem below_any (a n : Int) (w : World) :
    Calls Try.prog 32 #[.int .i64 a, .int .i64 n] w fun e w' => e = .returned (.bool (belowI a n)) ∧ w' = w := by
  go_enter Try.func32, Try.ntmps32
  go_wp2
  all_goals go_ret
  all_goals (refine ⟨?_, rfl⟩; simp [belowI, bel, *]; try omega)

end Go.Proofs.Ytnaonmclmmoipaa

namespace Go.Proofs.Ytnaonmclmmoipaa
open Go.RowKit
set_option linter.unusedSimpArgs false
set_option linter.unusedVariables false

set_option maxHeartbeats 1000000 in
theorem fits_0 (a b c n : Int) (w : World) (x : Ic) (hx : x = ⟨0, a, b, c⟩) : Calls Try.prog 57 #[icV x, .int .i64 n] w fun e w' => e = .returned (.bool (fitsI x n)) ∧ w' = w.alloc (.cells (icCells x) 67) := by
  subst hx
  go_enter Try.func57, Try.ntmps57
  go_wp2_with (first | (go_at_call 85; refine (isBelow_any _ _ _).mono ?_; rintro e w1 ⟨rfl, rfl⟩) | (go_at_call 84; refine (isReg_any _ _).mono ?_; rintro e w1 ⟨rfl, rfl⟩))
  all_goals go_ret
  all_goals (first | exact ⟨by simp [fitsI, *], rfl⟩ | exact ⟨by simp [fitsI, *], by simp [*]⟩)

set_option maxHeartbeats 1000000 in
theorem fits_1 (a b c n : Int) (w : World) (x : Ic) (hx : x = ⟨1, a, b, c⟩) : Calls Try.prog 57 #[icV x, .int .i64 n] w fun e w' => e = .returned (.bool (fitsI x n)) ∧ w' = w.alloc (.cells (icCells x) 67) := by
  subst hx
  go_enter Try.func57, Try.ntmps57
  go_wp2_with (first | (go_at_call 85; refine (isBelow_any _ _ _).mono ?_; rintro e w1 ⟨rfl, rfl⟩) | (go_at_call 84; refine (isReg_any _ _).mono ?_; rintro e w1 ⟨rfl, rfl⟩))
  all_goals go_ret
  all_goals (first | exact ⟨by simp [fitsI, *], rfl⟩ | exact ⟨by simp [fitsI, *], by simp [*]⟩)

set_option maxHeartbeats 1000000 in
theorem fits_2 (a b c n : Int) (w : World) (x : Ic) (hx : x = ⟨2, a, b, c⟩) : Calls Try.prog 57 #[icV x, .int .i64 n] w fun e w' => e = .returned (.bool (fitsI x n)) ∧ w' = w.alloc (.cells (icCells x) 67) := by
  subst hx
  go_enter Try.func57, Try.ntmps57
  go_wp2_with (first | (go_at_call 85; refine (isBelow_any _ _ _).mono ?_; rintro e w1 ⟨rfl, rfl⟩) | (go_at_call 84; refine (isReg_any _ _).mono ?_; rintro e w1 ⟨rfl, rfl⟩))
  all_goals go_ret
  all_goals (first | exact ⟨by simp [fitsI, *], rfl⟩ | exact ⟨by simp [fitsI, *], by simp [*]⟩)

set_option maxHeartbeats 1000000 in
theorem fits_3 (a b c n : Int) (w : World) (x : Ic) (hx : x = ⟨3, a, b, c⟩) : Calls Try.prog 57 #[icV x, .int .i64 n] w fun e w' => e = .returned (.bool (fitsI x n)) ∧ w' = w.alloc (.cells (icCells x) 67) := by
  subst hx
  go_enter Try.func57, Try.ntmps57
  go_wp2_with (first | (go_at_call 85; refine (isBelow_any _ _ _).mono ?_; rintro e w1 ⟨rfl, rfl⟩) | (go_at_call 84; refine (isReg_any _ _).mono ?_; rintro e w1 ⟨rfl, rfl⟩))
  all_goals go_ret
  all_goals (first | exact ⟨by simp [fitsI, *], rfl⟩ | exact ⟨by simp [fitsI, *], by simp [*]⟩)

set_option maxHeartbeats 1000000 in
theorem fits_11 (a b c n : Int) (w : World) (x : Ic) (hx : x = ⟨11, a, b, c⟩) : Calls Try.prog 57 #[icV x, .int .i64 n] w fun e w' => e = .returned (.bool (fitsI x n)) ∧ w' = w.alloc (.cells (icCells x) 67) := by
  subst hx
  go_enter Try.func57, Try.ntmps57
  go_wp2_with (first | (go_at_call 85; refine (isBelow_any _ _ _).mono ?_; rintro e w1 ⟨rfl, rfl⟩) | (go_at_call 84; refine (isReg_any _ _).mono ?_; rintro e w1 ⟨rfl, rfl⟩))
  all_goals go_ret
  all_goals (first | exact ⟨by simp [fitsI, *], rfl⟩ | exact ⟨by simp [fitsI, *], by simp [*]⟩)

set_option maxHeartbeats 1000000 in
theorem fits_12 (a b c n : Int) (w : World) (x : Ic) (hx : x = ⟨12, a, b, c⟩) : Calls Try.prog 57 #[icV x, .int .i64 n] w fun e w' => e = .returned (.bool (fitsI x n)) ∧ w' = w.alloc (.cells (icCells x) 67) := by
  subst hx
  go_enter Try.func57, Try.ntmps57
  go_wp2_with (first | (go_at_call 85; refine (isBelow_any _ _ _).mono ?_; rintro e w1 ⟨rfl, rfl⟩) | (go_at_call 84; refine (isReg_any _ _).mono ?_; rintro e w1 ⟨rfl, rfl⟩))
  all_goals go_ret
  all_goals (first | exact ⟨by simp [fitsI, *], rfl⟩ | exact ⟨by simp [fitsI, *], by simp [*]⟩)

set_option maxHeartbeats 1000000 in
theorem fits_13 (a b c n : Int) (w : World) (x : Ic) (hx : x = ⟨13, a, b, c⟩) : Calls Try.prog 57 #[icV x, .int .i64 n] w fun e w' => e = .returned (.bool (fitsI x n)) ∧ w' = w.alloc (.cells (icCells x) 67) := by
  subst hx
  go_enter Try.func57, Try.ntmps57
  go_wp2_with (first | (go_at_call 85; refine (isBelow_any _ _ _).mono ?_; rintro e w1 ⟨rfl, rfl⟩) | (go_at_call 84; refine (isReg_any _ _).mono ?_; rintro e w1 ⟨rfl, rfl⟩))
  all_goals go_ret
  all_goals (first | exact ⟨by simp [fitsI, *], rfl⟩ | exact ⟨by simp [fitsI, *], by simp [*]⟩)

set_option maxHeartbeats 1000000 in
theorem fits_14 (a b c n : Int) (w : World) (x : Ic) (hx : x = ⟨14, a, b, c⟩) : Calls Try.prog 57 #[icV x, .int .i64 n] w fun e w' => e = .returned (.bool (fitsI x n)) ∧ w' = w.alloc (.cells (icCells x) 67) := by
  subst hx
  go_enter Try.func57, Try.ntmps57
  go_wp2_with (first | (go_at_call 85; refine (isBelow_any _ _ _).mono ?_; rintro e w1 ⟨rfl, rfl⟩) | (go_at_call 84; refine (isReg_any _ _).mono ?_; rintro e w1 ⟨rfl, rfl⟩))
  all_goals go_ret
  all_goals (first | exact ⟨by simp [fitsI, *], rfl⟩ | exact ⟨by simp [fitsI, *], by simp [*]⟩)

set_option maxHeartbeats 1000000 in
theorem fits_15 (a b c n : Int) (w : World) (x : Ic) (hx : x = ⟨15, a, b, c⟩) : Calls Try.prog 57 #[icV x, .int .i64 n] w fun e w' => e = .returned (.bool (fitsI x n)) ∧ w' = w.alloc (.cells (icCells x) 67) := by
  subst hx
  go_enter Try.func57, Try.ntmps57
  go_wp2_with (first | (go_at_call 85; refine (isBelow_any _ _ _).mono ?_; rintro e w1 ⟨rfl, rfl⟩) | (go_at_call 84; refine (isReg_any _ _).mono ?_; rintro e w1 ⟨rfl, rfl⟩))
  all_goals go_ret
  all_goals (first | exact ⟨by simp [fitsI, *], rfl⟩ | exact ⟨by simp [fitsI, *], by simp [*]⟩)

set_option maxHeartbeats 2000000 in
theorem fits_op (o a b c n : Int) (w : World) (x : Ic) (hx : x = ⟨o, a, b, c⟩) (ho : o = 4 ∨ o = 5 ∨ o = 6 ∨ o = 7 ∨ o = 8 ∨ o = 9 ∨ o = 10) : Calls Try.prog 57 #[icV x, .int .i64 n] w fun e w' => e = .returned (.bool (fitsI x n)) ∧ w' = w.alloc (.cells (icCells x) 67) := by
  subst hx
  rcases ho with rfl | rfl | rfl | rfl | rfl | rfl | rfl
  all_goals (
    go_enter Try.func57, Try.ntmps57
    go_wp2_with (first | (go_at_call 85; refine (isBelow_any _ _ _).mono ?_; rintro e w1 ⟨rfl, rfl⟩) | (go_at_call 84; refine (isReg_any _ _).mono ?_; rintro e w1 ⟨rfl, rfl⟩))
    all_goals go_ret
    all_goals (refine ⟨?_, rfl⟩; simp [fitsI, *]))

set_option maxHeartbeats 1000000 in
theorem fits_no (o a b c n : Int) (w : World) (x : Ic) (hx : x = ⟨o, a, b, c⟩) (ho : o < 0 ∨ 15 < o) : Calls Try.prog 57 #[icV x, .int .i64 n] w fun e w' => e = .returned (.bool (fitsI x n)) ∧ w' = w.alloc (.cells (icCells x) 67) := by
  subst hx
  have e0 : (o == 0) = false := by simp; omega
  have e1 : (o == 1) = false := by simp; omega
  have e2 : (o == 2) = false := by simp; omega
  have e3 : (o == 3) = false := by simp; omega
  have e4 : (o == 4) = false := by simp; omega
  have e5 : (o == 5) = false := by simp; omega
  have e6 : (o == 6) = false := by simp; omega
  have e7 : (o == 7) = false := by simp; omega
  have e8 : (o == 8) = false := by simp; omega
  have e9 : (o == 9) = false := by simp; omega
  have e10 : (o == 10) = false := by simp; omega
  have e11 : (o == 11) = false := by simp; omega
  have e12 : (o == 12) = false := by simp; omega
  have e13 : (o == 13) = false := by simp; omega
  have e14 : (o == 14) = false := by simp; omega
  have e15 : (o == 15) = false := by simp; omega
  go_enter Try.func57, Try.ntmps57
  go_wp2_with (first | (go_at_call 85; refine (isBelow_any _ _ _).mono ?_; rintro e w1 ⟨rfl, rfl⟩) | (go_at_call 84; refine (isReg_any _ _).mono ?_; rintro e w1 ⟨rfl, rfl⟩))
  all_goals go_ret
  refine ⟨?_, rfl⟩
  have h1 : ¬ (4 ≤ o ∧ o ≤ 10) := by omega
  simp only [beq_eq_false_iff_ne, ne_eq] at *
  simp [fitsI, *]

theorem fits_any (x : Ic) (n : Int) (w : World) : Calls Try.prog 57 #[icV x, .int .i64 n] w fun e w' => e = .returned (.bool (fitsI x n)) ∧ w' = w.alloc (.cells (icCells x) 67) := by
  obtain ⟨o, a, b, c⟩ := x
  by_cases h : o < 0 ∨ 15 < o
  · exact fits_no o a b c n w _ rfl h
  by_cases h4 : 4 ≤ o ∧ o ≤ 10
  · exact fits_op o a b c n w _ rfl (by omega)
  rcases (show o = 0 ∨ o = 1 ∨ o = 2 ∨ o = 3 ∨ o = 11 ∨ o = 12 ∨ o = 13 ∨ o = 14 ∨ o = 15 by omega) with rfl | rfl | rfl | rfl | rfl | rfl | rfl | rfl | rfl
  · exact fits_0 a b c n w _ rfl
  · exact fits_1 a b c n w _ rfl
  · exact fits_2 a b c n w _ rfl
  · exact fits_3 a b c n w _ rfl
  · exact fits_11 a b c n w _ rfl
  · exact fits_12 a b c n w _ rfl
  · exact fits_13 a b c n w _ rfl
  · exact fits_14 a b c n w _ rfl
  · exact fits_15 a b c n w _ rfl

/-- The three bounds as a value. -/
def boundsV (o n : Int) : Value := .tuple #[.int .i64 (boundsI o n).1, .int .i64 (boundsI o n).2.1, .int .i64 (boundsI o n).2.2]

set_option maxHeartbeats 2000000 in
theorem bounds_in (o n : Int) (w : World) (ho : o = 0 ∨ o = 1 ∨ o = 2 ∨ o = 3 ∨ o = 11 ∨ o = 12 ∨ o = 13 ∨ o = 14 ∨ o = 15) : Calls Try.prog 31 #[.int .i64 o, .int .i64 n] w fun e w' => e = .returned (boundsV o n) ∧ w' = w := by
  rcases ho with rfl | rfl | rfl | rfl | rfl | rfl | rfl | rfl | rfl
  all_goals (
    go_enter Try.func31, Try.ntmps31
    go_wp2
    exact bodyPost_ret (v := boundsV _ n) (by simp [results, Try.results31, go_sem, boundsV, boundsI]) rfl ⟨rfl, rfl⟩)

set_option maxHeartbeats 1000000 in
theorem bounds_no (o n : Int) (w : World) (ho : ¬ (o = 0 ∨ o = 1 ∨ o = 2 ∨ o = 3 ∨ o = 11 ∨ o = 12 ∨ o = 13 ∨ o = 14 ∨ o = 15)) : Calls Try.prog 31 #[.int .i64 o, .int .i64 n] w fun e w' => e = .returned (boundsV o n) ∧ w' = w := by
  have hb : boundsV o n = .tuple #[.int .i64 100, .int .i64 100, .int .i64 100] := by
    unfold boundsV boundsI
    rw [if_neg (by omega), if_neg (by omega), if_neg (by omega), if_neg (by omega), if_neg (by omega), if_neg (by omega), if_neg (by omega)]
  have e0 : (o == 0) = false := by simp; omega
  have e1 : (o == 1) = false := by simp; omega
  have e2 : (o == 2) = false := by simp; omega
  have e3 : (o == 3) = false := by simp; omega
  have e11 : (o == 11) = false := by simp; omega
  have e12 : (o == 12) = false := by simp; omega
  have e13 : (o == 13) = false := by simp; omega
  have e14 : (o == 14) = false := by simp; omega
  have e15 : (o == 15) = false := by simp; omega
  go_enter Try.func31, Try.ntmps31
  go_wp2
  rw [hb]
  exact bodyPost_ret (v := .tuple #[.int .i64 100, .int .i64 100, .int .i64 100]) (by simp [results, Try.results31, go_sem]) rfl ⟨rfl, rfl⟩

theorem bounds_any (o n : Int) (w : World) : Calls Try.prog 31 #[.int .i64 o, .int .i64 n] w fun e w' => e = .returned (boundsV o n) ∧ w' = w := by
  by_cases h : o = 0 ∨ o = 1 ∨ o = 2 ∨ o = 3 ∨ o = 11 ∨ o = 12 ∨ o = 13 ∨ o = 14 ∨ o = 15
  · exact bounds_in o n w h
  · exact bounds_no o n w h

end Go.Proofs.Ytnaonmclmmoipaa
