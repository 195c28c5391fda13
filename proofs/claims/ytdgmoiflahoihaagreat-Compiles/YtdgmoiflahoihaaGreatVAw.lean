import Derived.Test.YtdgmoiflahoihaaGreatRows
import Derived.WalkKit
import Derived.WalkSpells
import Derived.WalkLawsBesides
import Derived.Deep.Cut
import Derived.Deep.CutRange
import Derived.RegionTactic
import Derived.Below
import Derived.ProofKit

namespace Go.Proofs.YtdgmoiflahoihaaGreat
structure Ic where
 op : Int
 a : Int
 b : Int
 c : Int
def bel (a n : Int) : Bool := decide (0 ≤ a) && decide (a < n)
def fitsI (x : Ic) (n : Int) : Bool :=
 if x.op = 0 then x.a == 0 && x.b == 0 && x.c == 0
 else if x.op = 1 then bel x.a 100 && x.c == 0
 else if x.op = 2 ∨ x.op = 3 then bel x.a 100 && bel x.b 100 && x.c == 0
 else if 4 ≤ x.op ∧ x.op ≤ 10 then bel x.a 100 && bel x.b 100 && bel x.c 100
 else if x.op = 11 then bel x.a 100 && bel x.b 26 && x.c == 0
 else if x.op = 12 then bel x.a n && x.b == 0 && x.c == 0
 else if x.op = 13 then bel x.a 100 && bel x.b n && bel x.c n
 else if x.op = 14 ∨ x.op = 15 then bel x.a 401 && bel x.b 16 && bel x.c 100
 else false
def endsI (x : Ic) : Bool := x.op == 0 || x.op == 12
def vloop (n : Nat) : List Ic → Nat → Int × Int
 | [], _ => (0, 0)
 | x :: r, k => if fitsI x n && (!r.isEmpty || endsI x) then vloop n r (k + 1) else (7, (k : Int))
def validI (l : List Ic) : Int × Int :=
 if 2000 < l.length then (4, 0) else if l.length = 0 then (7, 0) else vloop l.length l 0
def boundsI (op n : Int) : Int × Int × Int :=
 if op = 0 then (1, 1, 1) else if op = 1 then (100, 0, 1) else if op = 2 ∨ op = 3 then (100, 100, 1) else if op = 11 then (100, 26, 1)
 else if op = 12 then (n, 1, 1) else if op = 13 then (100, n, n) else if op = 14 ∨ op = 15 then (401, 16, 100) else (100, 100, 100)
def belowI (a n : Int) : Bool := n == 0 || bel a n
theorem bel_one (a : Int) : bel a 1 = (a == 0) := by
 unfold bel
 rw [Bool.eq_iff_iff]
 simp
 omega
theorem belowI_pos {a n : Int} (h : n ≠ 0) : belowI a n = bel a n := by
 unfold belowI
 simp [h]
theorem fits_bounds (x : Ic) (n : Int) (hn : n ≠ 0) : fitsI x n = (decide (0 ≤ x.op) && decide (x.op ≤ 15) && belowI x.a (boundsI x.op n).1 && belowI x.b (boundsI x.op n).2.1 && belowI x.c (boundsI x.op n).2.2) := by
 unfold fitsI boundsI
 by_cases h0 : x.op = 0
 ·simp [h0, belowI_pos, bel_one]
 by_cases h1 : x.op = 1
 ·simp [h1, belowI_pos, bel_one, show belowI x.b 0 = true from rfl]
 by_cases h2 : x.op = 2 ∨ x.op = 3
 ·have e1 : decide (0 ≤ x.op) = true := by simp; omega
  have e2 : decide (x.op ≤ 15) = true := by simp; omega
  simp [h0, h1, h2, e1, e2, belowI_pos, bel_one]
 by_cases h4 : 4 ≤ x.op ∧ x.op ≤ 10
 ·have e1 : decide (0 ≤ x.op) = true := by simp; omega
  have e2 : decide (x.op ≤ 15) = true := by simp; omega
  have e3 : ¬ x.op = 11 := by omega
  have e4 : ¬ x.op = 12 := by omega
  have e5 : ¬ x.op = 13 := by omega
  have e6 : ¬ (x.op = 14 ∨ x.op = 15) := by omega
  simp only [h0, h1, h2, h4, e1, e2, e3, e4, e5, e6, if_false, and_self, if_true, Bool.true_and, belowI_pos (show (100 : Int) ≠ 0 by decide)]
 by_cases h5 : x.op = 11
 ·simp [h5, belowI_pos, bel_one]
 by_cases h6 : x.op = 12
 ·simp [h6, belowI_pos, bel_one, belowI_pos hn]
 by_cases h7 : x.op = 13
 ·simp [h7, belowI_pos, belowI_pos hn]
 by_cases h8 : x.op = 14 ∨ x.op = 15
 ·have e1 : decide (0 ≤ x.op) = true := by simp; omega
  have e2 : decide (x.op ≤ 15) = true := by simp; omega
  simp only [h0, h1, h2, h4, h5, h6, h7, h8, e1, e2, if_false, if_true, Bool.true_and, belowI_pos (show (100 : Int) ≠ 0 by decide), belowI_pos (show (401 : Int) ≠ 0 by decide), belowI_pos (show (16 : Int) ≠ 0 by decide)]
 ·have e1 : (decide (0 ≤ x.op) && decide (x.op ≤ 15)) = false := by
   simp only [Bool.and_eq_false_iff, decide_eq_false_iff_not]
   omega
  simp only [h0, h1, h2, h4, h5, h6, h7, h8, e1, if_false, Bool.false_and]
theorem vloop_step {n : Nat} {l : List Ic} {k : Nat} (hk : k < l.length) (h : fitsI l[k] n = true) (h2 : k + 1 < l.length ∨ endsI l[k] = true) : vloop n (l.drop k) k = vloop n (l.drop (k + 1)) (k + 1) := by
 rw [List.drop_eq_getElem_cons hk]
 have e : (!(l.drop (k + 1)).isEmpty || endsI l[k]) = true := by
  rcases h2 with h2 | h2
  ·have : (l.drop (k + 1)).isEmpty = false := by
    rw [List.isEmpty_eq_false_iff]
    intro c
    rw [List.drop_eq_nil_iff] at c
    omega
   rw [this]; rfl
  ·rw [h2]; simp
 show (if fitsI l[k] n && (!(l.drop (k + 1)).isEmpty || endsI l[k]) then _ else _) = _
 rw [h, e]
 rfl
theorem vloop_bad {n : Nat} {l : List Ic} {k : Nat} (hk : k < l.length) (h : fitsI l[k] n = false) : vloop n (l.drop k) k = (7, (k : Int)) := by
 rw [List.drop_eq_getElem_cons hk]
 show (if fitsI l[k] n && _ then _ else _) = _
 rw [h]
 rfl
theorem vloop_end {n : Nat} {l : List Ic} {k : Nat} (hk : k + 1 = l.length) (h : endsI l[k] = false) : vloop n (l.drop k) k = (7, (k : Int)) := by
 rw [List.drop_eq_getElem_cons (by omega)]
 have : l.drop (k + 1) = [] := by rw [List.drop_eq_nil_iff]; omega
 rw [this]
 show (if fitsI l[k] n && (!true || endsI l[k]) then _ else _) = _
 rw [h]
 simp
end Go.Proofs.YtdgmoiflahoihaaGreat
namespace Go.Proofs.YtdgmoiflahoihaaGreat
open Go.RowKit
set_option linter.unusedSimpArgs false
set_option linter.unusedVariables false
@[reducible] def icCells (x : Ic) : Array Value := #[.int .i64 x.op, .int .i64 x.a, .int .i64 x.b, .int .i64 x.c]
@[reducible] def icV (x : Ic) : Value := .agg (icCells x)
def InsCells (w : World) (ao : Option Addr) (g o : Nat) (l : List Ic) : Prop := ∀ i, ∀ hi : i < l.length, ao = some ⟨g, o, none⟩ ∧ g < w.heap.size ∧
 w.cell? ⟨g, o + i * 4, none⟩ = some (.int .i64 l[i].op) ∧ w.cell? ⟨g, o + i * 4 + 1, none⟩ = some (.int .i64 l[i].a) ∧ w.cell? ⟨g, o + i * 4 + 2, none⟩ = some (.int .i64 l[i].b) ∧ w.cell? ⟨g, o + i * 4 + 3, none⟩ = some (.int .i64 l[i].c)
theorem InsCells.below {w w' : World} {ao : Option Addr} {g o : Nat} {l : List Ic} (h : InsCells w ao g o l) (hb : Below w.heap.size w w') : InsCells w' ao g o l := by
 intro i hi
 obtain ⟨e, hg, c0, c1, c2, c3⟩ := h i hi
 exact ⟨e, Nat.lt_of_lt_of_le hg hb.size, (hb.cell (p := ⟨g, _, none⟩) hg).trans c0, (hb.cell (p := ⟨g, _, none⟩) hg).trans c1, (hb.cell (p := ⟨g, _, none⟩) hg).trans c2, (hb.cell (p := ⟨g, _, none⟩) hg).trans c3⟩
def icRow : List Ic → List Value
 | [] => []
 | x :: r => .int .i64 x.op :: .int .i64 x.a :: .int .i64 x.b :: .int .i64 x.c :: icRow r
theorem icRow_length (l : List Ic) : (icRow l).length = l.length * 4 := by
 induction l with
 | nil => rfl
 | cons x r ih => simp only [icRow, List.length_cons, ih]; omega
theorem icRow_at (l : List Ic) : ∀ (i : Nat) (h : i < l.length), (icRow l)[i * 4]? = some (.int .i64 l[i].op) ∧ (icRow l)[i * 4 + 1]? = some (.int .i64 l[i].a) ∧ (icRow l)[i * 4 + 2]? = some (.int .i64 l[i].b) ∧ (icRow l)[i * 4 + 3]? = some (.int .i64 l[i].c) := by
 induction l with
 | nil => intro i h; cases h
 | cons p r ih =>
  intro i h
  cases i with
  | zero => simp [icRow]
  | succ i =>
   have k := ih i (by simpa using h)
   rw [show (i + 1) * 4 = i * 4 + 4 by omega]
   simpa [icRow] using k
theorem infoIns : (Tryz.prog.info? 64).map (fun i => (i.zero, i.size, i.bytes)) = some (some (.agg #[.int .i64 0, .int .i64 0, .int .i64 0, .int .i64 0]), 4, 32) := by kernel_rfl
end Go.Proofs.YtdgmoiflahoihaaGreat
namespace Go.Proofs.YtdgmoiflahoihaaGreat
open Go.RowKit
set_option linter.unusedSimpArgs false
set_option linter.unusedVariables false
set_option maxHeartbeats 400000 in
theorem below_any (a n : Int) (w : World) :
  Calls Tryz.prog 29 #[.int .i64 a, .int .i64 n] w fun e w' => e = .returned (.bool (belowI a n)) ∧ w' = w := by
 go_enter Tryz.func29, Tryz.ntmps29
 go_wp2
 all_goals go_ret
 all_goals (refine ⟨?_, rfl⟩; simp [belowI, bel, *]; try omega)
def boundsV (o n : Int) : Value := .tuple #[.int .i64 (boundsI o n).1, .int .i64 (boundsI o n).2.1, .int .i64 (boundsI o n).2.2]
set_option maxHeartbeats 2000000 in
theorem bounds_in (o n : Int) (w : World) (ho : o = 0 ∨ o = 1 ∨ o = 2 ∨ o = 3 ∨ o = 11 ∨ o = 12 ∨ o = 13 ∨ o = 14 ∨ o = 15) : Calls Tryz.prog 28 #[.int .i64 o, .int .i64 n] w fun e w' => e = .returned (boundsV o n) ∧ w' = w := by
 rcases ho with rfl | rfl | rfl | rfl | rfl | rfl | rfl | rfl | rfl
 all_goals (
  go_enter Tryz.func28, Tryz.ntmps28
  go_wp2
  exact bodyPost_ret (v := boundsV _ n) (by simp [results, Tryz.results28, go_sem, boundsV, boundsI]) rfl ⟨rfl, rfl⟩)
set_option maxHeartbeats 1000000 in
theorem bounds_no (o n : Int) (w : World) (ho : ¬ (o = 0 ∨ o = 1 ∨ o = 2 ∨ o = 3 ∨ o = 11 ∨ o = 12 ∨ o = 13 ∨ o = 14 ∨ o = 15)) : Calls Tryz.prog 28 #[.int .i64 o, .int .i64 n] w fun e w' => e = .returned (boundsV o n) ∧ w' = w := by
 have hb : boundsV o n = .tuple #[.int .i64 100, .int .i64 100, .int .i64 100] := by
  unfold boundsV boundsI
  rw [if_neg (by omega), if_neg (by omega), if_neg (by omega), if_neg (by omega), if_neg (by omega), if_neg (by omega), if_neg (by omega)]
 have e0 : (o == 0) = false := by simp; omega
 have e1 : (o == 1) = false := by simp; omega
 have e2 : (o == 2) = false := by simp; omega
 have e3 : (o == 3) = false := by simp; omega
 have e11 : (o == 11) = false := by simp; omega
 have e12 : (o == 12) = false := by simp; omega
 have e13 : (o == 13) = false := by simp; omega
 have e14 : (o == 14) = false := by simp; omega
 have e15 : (o == 15) = false := by simp; omega
 go_enter Tryz.func28, Tryz.ntmps28
 go_wp2
 rw [hb]
 exact bodyPost_ret (v := .tuple #[.int .i64 100, .int .i64 100, .int .i64 100]) (by simp [results, Tryz.results28, go_sem]) rfl ⟨rfl, rfl⟩
theorem bounds_any (o n : Int) (w : World) : Calls Tryz.prog 28 #[.int .i64 o, .int .i64 n] w fun e w' => e = .returned (boundsV o n) ∧ w' = w := by
 by_cases h : o = 0 ∨ o = 1 ∨ o = 2 ∨ o = 3 ∨ o = 11 ∨ o = 12 ∨ o = 13 ∨ o = 14 ∨ o = 15
 ·exact bounds_in o n w h
 ·exact bounds_no o n w h
end Go.Proofs.YtdgmoiflahoihaaGreat
namespace Go.Proofs.YtdgmoiflahoihaaGreat
open Go.RowKit
set_option linter.unusedSimpArgs false
set_option linter.unusedVariables false
set_option maxHeartbeats 1000000 in
theorem valid_long (l : List Ic) (ao : Option Addr) (cap : Nat) (w : World) (h : 2000 < l.length) :
  Calls Tryz.prog 14 #[.slice ao l.length cap] w fun e w' => e = .returned (.tuple #[.int .i64 (validI l).1, .int .i64 (validI l).2]) ∧ Below w.heap.size w w' := by
 have hv : validI l = (4, 0) := by unfold validI; rw [if_pos h]
 have t1 : decide ((2000 : Int) < (l.length : Int)) = true := by simp; omega
 rw [hv]
 go_enter Tryz.func14, Tryz.ntmps14
 go_wp2_with fail
 go_ret2
 exact ⟨rfl, Below.refl _ _⟩
set_option maxHeartbeats 1000000 in
theorem valid_none (l : List Ic) (ao : Option Addr) (cap : Nat) (w : World) (h : l.length = 0) :
  Calls Tryz.prog 14 #[.slice ao l.length cap] w fun e w' => e = .returned (.tuple #[.int .i64 (validI l).1, .int .i64 (validI l).2]) ∧ Below w.heap.size w w' := by
 have hv : validI l = (7, 0) := by unfold validI; rw [if_neg (by omega), if_pos h]
 rw [hv, h]
 go_enter Tryz.func14, Tryz.ntmps14
 go_wp2_with fail
 go_loopw [4] (fun x w' => x = .int .i64 0 ∧ w' = w) (fun _ _ => 0)
 case atStart => exact ⟨rfl, rfl⟩
 case round =>
  obtain ⟨rfl, rfl⟩ := hrel
  go_wp2_with fail
  go_ret2
  exact ⟨rfl, Below.refl _ _⟩
set_option maxRecDepth 100000 in
set_option maxHeartbeats 4000000 in
theorem valid_some (l : List Ic) (g o : Nat) (cap : Nat) (w : World) (m : Nat) (hm : l.length = m + 1) (hl : m < 2000) (hc : InsCells w (some ⟨g, o, none⟩) g o l) :
  Calls Tryz.prog 14 #[.slice (some ⟨g, o, none⟩) (m + 1) cap] w fun e w' => e = .returned (.tuple #[.int .i64 (validI l).1, .int .i64 (validI l).2]) ∧ Below w.heap.size w w' := by
 have hv : validI l = vloop l.length (l.drop 0) 0 := by unfold validI; rw [if_neg (by omega), if_neg (by omega)]; rfl
 have t1 : decide ((2000 : Int) < (m : Int) + 1) = false := by simp; omega
 have t2 : ((m : Int) + 1 == 0) = false := by rw [beq_eq_false_iff_ne]; omega
 generalize hy : validI l = y at *
 have HY : Hid (vloop l.length (l.drop 0) 0 = y) := hv.symm
 have HC : Hid (InsCells w (some ⟨g, o, none⟩) g o l) := hc
 clear hy hv hc
 go_enter Tryz.func14, Tryz.ntmps14
 go_wp2_with fail
 go_loopw [4] (fun x w' => ∃ k : Nat, x = .int .i64 k ∧ k ≤ m + 1 ∧ Hid (Below w.heap.size w w') ∧ Hid (vloop l.length (l.drop k) k = y)) (fun x _ => m + 1 - (intOf x).toNat)
 case atStart => exact ⟨0, rfl, by omega, Below.refl _ _, HY⟩
 case round =>
  obtain ⟨k, rfl, hk, HB, HV⟩ := hrel
  have hsz : w.heap.size ≤ wr.heap.size := HB.out.size
  by_cases hlt : k < m + 1
  ·have tk : decide ((k : Int) < (m : Int) + 1) = true := by simp; omega
   have hkl : k < l.length := by omega
   obtain ⟨_, hg, c0, c1, c2, c3⟩ := HC.out k hkl
   rw [← HB.out.cell (p := ⟨g, o + k * 4, none⟩) hg] at c0
   rw [← HB.out.cell (p := ⟨g, o + k * 4 + 1, none⟩) hg] at c1
   rw [← HB.out.cell (p := ⟨g, o + k * 4 + 2, none⟩) hg] at c2
   rw [← HB.out.cell (p := ⟨g, o + k * 4 + 3, none⟩) hg] at c3
   have hln : (l.length : Int) = (m : Int) + 1 := by omega
   have hfb := fits_bounds l[k] l.length (by omega)
   rw [hln] at hfb
   -- what follows from each outcome
   have HBad : Hid (fitsI l[k] ((m : Int) + 1) = false → (7, (k : Int)) = y) := fun hfit => (vloop_bad hkl (by rw [hln]; exact hfit)).symm.trans HV.out
   have HEnd : Hid (k = m → endsI l[k] = false → (7, (k : Int)) = y) := fun hkm he => (vloop_end (by omega) he).symm.trans HV.out
   have HGo : Hid (fitsI l[k] ((m : Int) + 1) = true → (k < m ∨ endsI l[k] = true) → vloop l.length (l.drop (k + 1)) (k + 1) = y) := fun hfit h2 => (vloop_step hkl (by rw [hln]; exact hfit) (h2.imp (fun h => by omega) id)).symm.trans HV.out
   generalize l[k] = p at *
   obtain ⟨po, pa, pb, pc⟩ := p
   simp only at c0 c1 c2 c3 hfb
   unfold endsI at HEnd HGo
   simp only at HEnd HGo
   clear HV HC hkl hln
   have hbn : (boundsV po ((m : Int) + 1)) = .tuple #[.int .i64 (boundsI po ((m : Int) + 1)).1, .int .i64 (boundsI po ((m : Int) + 1)).2.1, .int .i64 (boundsI po ((m : Int) + 1)).2.2] := rfl
   generalize (boundsI po ((m : Int) + 1)) = bn at *
   obtain ⟨b1, b2, b3⟩ := bn
   simp only at hfb hbn
   have HB2 : Hid (∀ ob, Below w.heap.size w (wr.alloc ob)) := fun ob => HB.out.alloc (by omega) _
   have last : ((k : Int) + 1 == (m : Int) + 1) = false ∧ ((k : Int) == (m : Int)) = false ∧ Hid (k < m) ∨ ((k : Int) + 1 == (m : Int) + 1) = true ∧ ((k : Int) == (m : Int)) = true ∧ Hid (k = m) ∧ (po != 0) = false ∨ ((k : Int) + 1 == (m : Int) + 1) = true ∧ ((k : Int) == (m : Int)) = true ∧ Hid (k = m) ∧ (po != 0) = true ∧ (po != 12) = false ∨ ((k : Int) + 1 == (m : Int) + 1) = true ∧ ((k : Int) == (m : Int)) = true ∧ Hid (k = m) ∧ (po != 0) = true ∧ (po != 12) = true := by
    unfold Hid
    simp only [beq_eq_false_iff_ne, beq_iff_eq, ne_eq, bne_iff_ne, bne_eq_false_iff_eq]
    omega
   have oks : decide (0 ≤ po) = false ∨ decide (0 ≤ po) = true ∧ decide (po ≤ 15) = false ∨ decide (0 ≤ po) = true ∧ decide (po ≤ 15) = true ∧ belowI pa b1 = false ∨ decide (0 ≤ po) = true ∧ decide (po ≤ 15) = true ∧ belowI pa b1 = true ∧ belowI pb b2 = false ∨ decide (0 ≤ po) = true ∧ decide (po ≤ 15) = true ∧ belowI pa b1 = true ∧ belowI pb b2 = true ∧ belowI pc b3 = false ∨ decide (0 ≤ po) = true ∧ decide (po ≤ 15) = true ∧ belowI pa b1 = true ∧ belowI pb b2 = true ∧ belowI pc b3 = true := by
    cases decide (0 ≤ po) <;> cases decide (po ≤ 15) <;> cases belowI pa b1 <;> cases belowI pb b2 <;> cases belowI pc b3 <;> simp
   rcases oks with e1 | ⟨e1, e2⟩ | ⟨e1, e2, e3⟩ | ⟨e1, e2, e3, e4⟩ | ⟨e1, e2, e3, e4, e5⟩ | ⟨e1, e2, e3, e4, e5⟩
   ·rw [e1] at hfb
    simp only [Bool.false_and, Bool.true_and] at hfb
    have HFB : Hid _ := HBad.out hfb
    clear hfb HGo HEnd HBad
    rcases last with ⟨l1, l2, l3⟩ | ⟨l1, l2, l3, l4⟩ | ⟨l1, l2, l3, l4, l5⟩ | ⟨l1, l2, l3, l4, l5⟩
    all_goals (
     go_wp2_with (first | (go_at_call 28; refine (bounds_any _ _ _).mono ?_; rintro e w1 ⟨rfl, rfl⟩) | (go_at_call 29; refine (below_any _ _ _).mono ?_; rintro e w1 ⟨rfl, rfl⟩))
     rw [← HFB.out]
     go_ret2
     exact ⟨rfl, HB2.out _⟩)
   ·rw [e1, e2] at hfb
    simp only [Bool.false_and, Bool.true_and] at hfb
    have HFB : Hid _ := HBad.out hfb
    clear hfb HGo HEnd HBad
    rcases last with ⟨l1, l2, l3⟩ | ⟨l1, l2, l3, l4⟩ | ⟨l1, l2, l3, l4, l5⟩ | ⟨l1, l2, l3, l4, l5⟩
    all_goals (
     go_wp2_with (first | (go_at_call 28; refine (bounds_any _ _ _).mono ?_; rintro e w1 ⟨rfl, rfl⟩) | (go_at_call 29; refine (below_any _ _ _).mono ?_; rintro e w1 ⟨rfl, rfl⟩))
     rw [← HFB.out]
     go_ret2
     exact ⟨rfl, HB2.out _⟩)
   ·rw [e1, e2, e3] at hfb
    simp only [Bool.false_and, Bool.true_and] at hfb
    have HFB : Hid _ := HBad.out hfb
    clear hfb HGo HEnd HBad
    rcases last with ⟨l1, l2, l3⟩ | ⟨l1, l2, l3, l4⟩ | ⟨l1, l2, l3, l4, l5⟩ | ⟨l1, l2, l3, l4, l5⟩
    all_goals (
     go_wp2_with (first | (go_at_call 28; refine (bounds_any _ _ _).mono ?_; rintro e w1 ⟨rfl, rfl⟩) | (go_at_call 29; refine (below_any _ _ _).mono ?_; rintro e w1 ⟨rfl, rfl⟩))
     rw [← HFB.out]
     go_ret2
     exact ⟨rfl, HB2.out _⟩)
   ·rw [e1, e2, e3, e4] at hfb
    simp only [Bool.false_and, Bool.true_and] at hfb
    have HFB : Hid _ := HBad.out hfb
    clear hfb HGo HEnd HBad
    rcases last with ⟨l1, l2, l3⟩ | ⟨l1, l2, l3, l4⟩ | ⟨l1, l2, l3, l4, l5⟩ | ⟨l1, l2, l3, l4, l5⟩
    all_goals (
     go_wp2_with (first | (go_at_call 28; refine (bounds_any _ _ _).mono ?_; rintro e w1 ⟨rfl, rfl⟩) | (go_at_call 29; refine (below_any _ _ _).mono ?_; rintro e w1 ⟨rfl, rfl⟩))
     rw [← HFB.out]
     go_ret2
     exact ⟨rfl, HB2.out _⟩)
   ·rw [e1, e2, e3, e4, e5] at hfb
    simp only [Bool.false_and, Bool.true_and] at hfb
    have HFB : Hid _ := HBad.out hfb
    clear hfb HGo HEnd HBad
    rcases last with ⟨l1, l2, l3⟩ | ⟨l1, l2, l3, l4⟩ | ⟨l1, l2, l3, l4, l5⟩ | ⟨l1, l2, l3, l4, l5⟩
    all_goals (
     go_wp2_with (first | (go_at_call 28; refine (bounds_any _ _ _).mono ?_; rintro e w1 ⟨rfl, rfl⟩) | (go_at_call 29; refine (below_any _ _ _).mono ?_; rintro e w1 ⟨rfl, rfl⟩))
     rw [← HFB.out]
     go_ret2
     exact ⟨rfl, HB2.out _⟩)
   ·rw [e1, e2, e3, e4, e5] at hfb
    simp only [Bool.true_and] at hfb
    rcases last with ⟨l1, l2, l3⟩ | ⟨l1, l2, l3, l4⟩ | ⟨l1, l2, l3, l4, l5⟩ | ⟨l1, l2, l3, l4, l5⟩
    ·have HG : Hid _ := HGo.out hfb (.inl l3.out)
     clear hfb HGo HEnd HBad
     go_wp2_with (first | (go_at_call 28; refine (bounds_any _ _ _).mono ?_; rintro e w1 ⟨rfl, rfl⟩) | (go_at_call 29; refine (below_any _ _ _).mono ?_; rintro e w1 ⟨rfl, rfl⟩))
     go_roundw
     case rel => exact ⟨k + 1, by go_num, by omega, HB2.out _, HG⟩
     case measure => simp [intOf]; omega
    ·have HG : Hid _ := HGo.out hfb (.inr (by simp at l4; simp [l4]))
     clear hfb HGo HEnd HBad
     go_wp2_with (first | (go_at_call 28; refine (bounds_any _ _ _).mono ?_; rintro e w1 ⟨rfl, rfl⟩) | (go_at_call 29; refine (below_any _ _ _).mono ?_; rintro e w1 ⟨rfl, rfl⟩))
     go_roundw
     case rel => exact ⟨k + 1, by go_num, by omega, HB2.out _, HG⟩
     case measure => simp [intOf]; omega
    ·have HG : Hid _ := HGo.out hfb (.inr (by simp at l5; simp [l5]))
     clear hfb HGo HEnd HBad
     go_wp2_with (first | (go_at_call 28; refine (bounds_any _ _ _).mono ?_; rintro e w1 ⟨rfl, rfl⟩) | (go_at_call 29; refine (below_any _ _ _).mono ?_; rintro e w1 ⟨rfl, rfl⟩))
     go_roundw
     case rel => exact ⟨k + 1, by go_num, by omega, HB2.out _, HG⟩
     case measure => simp [intOf]; omega
    ·have HFB : Hid _ := HEnd.out l3.out (by simp at l4 l5; simp [l4, l5])
     clear hfb HGo HEnd HBad
     go_wp2_with (first | (go_at_call 28; refine (bounds_any _ _ _).mono ?_; rintro e w1 ⟨rfl, rfl⟩) | (go_at_call 29; refine (below_any _ _ _).mono ?_; rintro e w1 ⟨rfl, rfl⟩))
     rw [← HFB.out]
     go_ret2
     exact ⟨rfl, HB2.out _⟩
  ·have tk : decide ((k : Int) < (m : Int) + 1) = false := by simp; omega
   have HE : Hid ((0, 0) = y) := by
    have := HV.out
    rw [List.drop_eq_nil_of_le (by omega)] at this
    exact this
   go_wp2_with fail
   rw [← HE.out]
   go_ret2
   exact ⟨rfl, HB.out⟩
theorem refValid_any (l : List Ic) (ao : Option Addr) (g o cap : Nat) (w : World) (hc : InsCells w ao g o l) :
  Calls Tryz.prog 14 #[.slice ao l.length cap] w fun e w' => e = .returned (.tuple #[.int .i64 (validI l).1, .int .i64 (validI l).2]) ∧ Below w.heap.size w w' := by
 by_cases h : 2000 < l.length
 ·exact valid_long l ao cap w h
 by_cases h0 : l.length = 0
 ·exact valid_none l ao cap w h0
 ·obtain ⟨rfl, _⟩ := hc 0 (by omega)
  have := valid_some l g o cap w (l.length - 1) (by omega) (by omega) hc
  rwa [show l.length - 1 + 1 = l.length by omega] at this
end Go.Proofs.YtdgmoiflahoihaaGreat
