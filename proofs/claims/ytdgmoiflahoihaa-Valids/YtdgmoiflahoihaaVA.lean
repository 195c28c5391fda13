import Derived.Test.YtdgmoiflahoihaaRows
import Derived.WalkKit
import Derived.WalkSpells
import Derived.WalkLawsBesides
import Derived.Deep.Cut
import Derived.Deep.CutRange
import Derived.RegionTactic
import Derived.Below
import Derived.ProofKit

namespace Go.Proofs.Ytdgmoiflahoihaa
structure Ic where
 op : Int
 a : Int
 b : Int
 c : Int
def bel (a n : Int) : Bool := decide (0 ≤ a) && decide (a < n)
def fitsI (x : Ic) (n : Int) : Bool :=
 if x.op = 0 then x.a == 0 && x.b == 0 && x.c == 0
 else if x.op = 1 then bel x.a 100 && x.c == 0
 else if x.op = 2 ∨ x.op = 3 then bel x.a 100 && bel x.b 100 && x.c == 0
 else if 4 ≤ x.op ∧ x.op ≤ 10 then bel x.a 100 && bel x.b 100 && bel x.c 100
 else if x.op = 11 then bel x.a 100 && bel x.b 26 && x.c == 0
 else if x.op = 12 then bel x.a n && x.b == 0 && x.c == 0
 else if x.op = 13 then bel x.a 100 && bel x.b n && bel x.c n
 else if x.op = 14 ∨ x.op = 15 then bel x.a 401 && bel x.b 16 && bel x.c 100
 else false
def endsI (x : Ic) : Bool := x.op == 0 || x.op == 12
def vloop (n : Nat) : List Ic → Nat → Int × Int
 | [], _ => (0, 0)
 | x :: r, k => if fitsI x n && (!r.isEmpty || endsI x) then vloop n r (k + 1) else (7, (k : Int))
def validI (l : List Ic) : Int × Int :=
 if 2000 < l.length then (4, 0) else if l.length = 0 then (7, 0) else vloop l.length l 0
def boundsI (op n : Int) : Int × Int × Int :=
 if op = 0 then (1, 1, 1) else if op = 1 then (100, 0, 1) else if op = 2 ∨ op = 3 then (100, 100, 1) else if op = 11 then (100, 26, 1)
 else if op = 12 then (n, 1, 1) else if op = 13 then (100, n, n) else if op = 14 ∨ op = 15 then (401, 16, 100) else (100, 100, 100)
def belowI (a n : Int) : Bool := n == 0 || bel a n
theorem bel_one (a : Int) : bel a 1 = (a == 0) := by
 unfold bel
 rw [Bool.eq_iff_iff]
 simp
 omega
theorem belowI_pos {a n : Int} (h : n ≠ 0) : belowI a n = bel a n := by
 unfold belowI
 simp [h]
theorem fits_bounds (x : Ic) (n : Int) (hn : n ≠ 0) : fitsI x n = (decide (0 ≤ x.op) && decide (x.op ≤ 15) && belowI x.a (boundsI x.op n).1 && belowI x.b (boundsI x.op n).2.1 && belowI x.c (boundsI x.op n).2.2) := by
 unfold fitsI boundsI
 by_cases h0 : x.op = 0
 ·simp [h0, belowI_pos, bel_one]
 by_cases h1 : x.op = 1
 ·simp [h1, belowI_pos, bel_one, show belowI x.b 0 = true from rfl]
 by_cases h2 : x.op = 2 ∨ x.op = 3
 ·have e1 : decide (0 ≤ x.op) = true := by simp; omega
  have e2 : decide (x.op ≤ 15) = true := by simp; omega
  simp [h0, h1, h2, e1, e2, belowI_pos, bel_one]
 by_cases h4 : 4 ≤ x.op ∧ x.op ≤ 10
 ·have e1 : decide (0 ≤ x.op) = true := by simp; omega
  have e2 : decide (x.op ≤ 15) = true := by simp; omega
  have e3 : ¬ x.op = 11 := by omega
  have e4 : ¬ x.op = 12 := by omega
  have e5 : ¬ x.op = 13 := by omega
  have e6 : ¬ (x.op = 14 ∨ x.op = 15) := by omega
  simp only [h0, h1, h2, h4, e1, e2, e3, e4, e5, e6, if_false, and_self, if_true, Bool.true_and, belowI_pos (show (100 : Int) ≠ 0 by decide)]
 by_cases h5 : x.op = 11
 ·simp [h5, belowI_pos, bel_one]
 by_cases h6 : x.op = 12
 ·simp [h6, belowI_pos, bel_one, belowI_pos hn]
 by_cases h7 : x.op = 13
 ·simp [h7, belowI_pos, belowI_pos hn]
 by_cases h8 : x.op = 14 ∨ x.op = 15
 ·have e1 : decide (0 ≤ x.op) = true := by simp; omega
  have e2 : decide (x.op ≤ 15) = true := by simp; omega
  simp only [h0, h1, h2, h4, h5, h6, h7, h8, e1, e2, if_false, if_true, Bool.true_and, belowI_pos (show (100 : Int) ≠ 0 by decide), belowI_pos (show (401 : Int) ≠ 0 by decide), belowI_pos (show (16 : Int) ≠ 0 by decide)]
 ·have e1 : (decide (0 ≤ x.op) && decide (x.op ≤ 15)) = false := by
   simp only [Bool.and_eq_false_iff, decide_eq_false_iff_not]
   omega
  simp only [h0, h1, h2, h4, h5, h6, h7, h8, e1, if_false, Bool.false_and]
theorem vloop_step {n : Nat} {l : List Ic} {k : Nat} (hk : k < l.length) (h : fitsI l[k] n = true) (h2 : k + 1 < l.length ∨ endsI l[k] = true) : vloop n (l.drop k) k = vloop n (l.drop (k + 1)) (k + 1) := by
 rw [List.drop_eq_getElem_cons hk]
 have e : (!(l.drop (k + 1)).isEmpty || endsI l[k]) = true := by
  rcases h2 with h2 | h2
  ·have : (l.drop (k + 1)).isEmpty = false := by
    rw [List.isEmpty_eq_false_iff]
    intro c
    rw [List.drop_eq_nil_iff] at c
    omega
   rw [this]; rfl
  ·rw [h2]; simp
 show (if fitsI l[k] n && (!(l.drop (k + 1)).isEmpty || endsI l[k]) then _ else _) = _
 rw [h, e]
 rfl
theorem vloop_bad {n : Nat} {l : List Ic} {k : Nat} (hk : k < l.length) (h : fitsI l[k] n = false) : vloop n (l.drop k) k = (7, (k : Int)) := by
 rw [List.drop_eq_getElem_cons hk]
 show (if fitsI l[k] n && _ then _ else _) = _
 rw [h]
 rfl
theorem vloop_end {n : Nat} {l : List Ic} {k : Nat} (hk : k + 1 = l.length) (h : endsI l[k] = false) : vloop n (l.drop k) k = (7, (k : Int)) := by
 rw [List.drop_eq_getElem_cons (by omega)]
 have : l.drop (k + 1) = [] := by rw [List.drop_eq_nil_iff]; omega
 rw [this]
 show (if fitsI l[k] n && (!true || endsI l[k]) then _ else _) = _
 rw [h]
 simp
end Go.Proofs.Ytdgmoiflahoihaa
namespace Go.Proofs.Ytdgmoiflahoihaa
open Go.RowKit
set_option linter.unusedSimpArgs false
set_option linter.unusedVariables false
@[reducible] def icCells (x : Ic) : Array Value := #[.int .i64 x.op, .int .i64 x.a, .int .i64 x.b, .int .i64 x.c]
@[reducible] def icV (x : Ic) : Value := .agg (icCells x)
def InsCells (w : World) (ao : Option Addr) (g o : Nat) (l : List Ic) : Prop := ∀ i, ∀ hi : i < l.length, ao = some ⟨g, o, none⟩ ∧ g < w.heap.size ∧
 w.cell? ⟨g, o + i * 4, none⟩ = some (.int .i64 l[i].op) ∧ w.cell? ⟨g, o + i * 4 + 1, none⟩ = some (.int .i64 l[i].a) ∧ w.cell? ⟨g, o + i * 4 + 2, none⟩ = some (.int .i64 l[i].b) ∧ w.cell? ⟨g, o + i * 4 + 3, none⟩ = some (.int .i64 l[i].c)
theorem InsCells.below {w w' : World} {ao : Option Addr} {g o : Nat} {l : List Ic} (h : InsCells w ao g o l) (hb : Below w.heap.size w w') : InsCells w' ao g o l := by
 intro i hi
 obtain ⟨e, hg, c0, c1, c2, c3⟩ := h i hi
 exact ⟨e, Nat.lt_of_lt_of_le hg hb.size, (hb.cell (p := ⟨g, _, none⟩) hg).trans c0, (hb.cell (p := ⟨g, _, none⟩) hg).trans c1, (hb.cell (p := ⟨g, _, none⟩) hg).trans c2, (hb.cell (p := ⟨g, _, none⟩) hg).trans c3⟩
def icRow : List Ic → List Value
 | [] => []
 | x :: r => .int .i64 x.op :: .int .i64 x.a :: .int .i64 x.b :: .int .i64 x.c :: icRow r
theorem icRow_length (l : List Ic) : (icRow l).length = l.length * 4 := by
 induction l with
 | nil => rfl
 | cons x r ih => simp only [icRow, List.length_cons, ih]; omega
theorem icRow_at (l : List Ic) : ∀ (i : Nat) (h : i < l.length), (icRow l)[i * 4]? = some (.int .i64 l[i].op) ∧ (icRow l)[i * 4 + 1]? = some (.int .i64 l[i].a) ∧ (icRow l)[i * 4 + 2]? = some (.int .i64 l[i].b) ∧ (icRow l)[i * 4 + 3]? = some (.int .i64 l[i].c) := by
 induction l with
 | nil => intro i h; cases h
 | cons p r ih =>
  intro i h
  cases i with
  | zero => simp [icRow]
  | succ i =>
   have k := ih i (by simpa using h)
   rw [show (i + 1) * 4 = i * 4 + 4 by omega]
   simpa [icRow] using k
theorem icRow_one (l : List Ic) : ∀ v ∈ icRow l, v.oneCell' = true := by
 induction l with
 | nil => intro v h; cases h
 | cons x r ih =>
  intro v h
  simp only [icRow, List.mem_cons] at h
  rcases h with rfl | rfl | rfl | rfl | h
  ·rfl
  ·rfl
  ·rfl
  ·rfl
  ·exact ih v h
theorem infoIns : (Try.prog.info? 70).map (fun i => (i.zero, i.size, i.bytes)) = some (some (.agg #[.int .i64 0, .int .i64 0, .int .i64 0, .int .i64 0]), 4, 32) := by kernel_rfl
end Go.Proofs.Ytdgmoiflahoihaa
