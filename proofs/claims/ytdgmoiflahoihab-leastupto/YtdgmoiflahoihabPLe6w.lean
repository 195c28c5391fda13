import Derived.Test.YtdgmoiflahoihabPLew
import Derived.Test.YtdgmoiflahoihabPQw

namespace Go.Proofs.Ytdgmoiflahoihab
open Go.RowKit
set_option linter.unusedSimpArgs false
set_option linter.unusedVariables false
def stB : List Int → Nat → Nat
 | [], n => n
 | h :: r, n => stB r (if 0 ≤ h ∧ h < 26 then n ||| 2 ^ h.toNat else n)
theorem stB_bit (x : Nat) (hx : x < 26) : ∀ (l : List Int) (n : Nat), (stB l n).testBit x = (n.testBit x || l.any (fun h => h == (x : Int)))
 | [], n => by simp [stB]
 | h :: r, n => by
  unfold stB
  rw [stB_bit x hx r, List.any_cons, ← Bool.or_assoc]
  congr 1
  split
  ·rename_i hh
   rw [Nat.testBit_or, Nat.testBit_two_pow]
   congr 1
   rw [Bool.eq_iff_iff]
   simp
   omega
  ·rename_i hh
   have : (h == (x : Int)) = false := by simp; omega
   rw [this, Bool.or_false]
theorem stB_lt : ∀ (l : List Int) (n : Nat), n < 2 ^ 26 → stB l n < 2 ^ 26
 | [], n, h => h
 | a :: r, n, h => by
  unfold stB
  refine stB_lt r _ ?_
  split
  ·rename_i hh
   refine Nat.or_lt_two_pow h ?_
   exact Nat.pow_lt_pow_right (by decide) (by omega)
  ·exact h
def standP (t : List UInt8) : Nat := stB (hdsL 63 t ++ hdsL 33 t) 0
theorem standP_lt (t : List UInt8) : standP t < 2 ^ 26 := stB_lt _ _ (by decide)
theorem hdOf_some {x : Nat} : ∀ (l : List Hd), l.any (fun h => h.name == (x : Int)) = (hdOf l x).isSome
 | [] => rfl
 | a :: r => by
  rw [List.any_cons]
  unfold hdOf
  by_cases h : a.name = (x : Int)
  ·rw [if_pos h]
   simp [h]
  ·rw [if_neg h, ← hdOf_some r]
   simp [h]
theorem any_part {α : Type} (f p : α → Bool) : ∀ (l : List α), ((l.filter p).any f || (l.filter (fun a => !p a)).any f) = l.any f
 | [] => rfl
 | a :: r => by
  rw [List.any_cons, ← any_part f p r]
  cases h : p a
  ·rw [List.filter_cons_of_neg (by simp [h]), List.filter_cons_of_pos (by simp [h]), List.any_cons]
   cases f a <;> simp
  ·rw [List.filter_cons_of_pos h, List.filter_cons_of_neg (by simp [h]), List.any_cons]
   cases f a <;> simp
theorem standP_bit {t : List UInt8} (h : (parseR t).1.bad = false) (x : Nat) (hx : x < 26) : (standP t).testBit x = (hdOf (parseH t).2 x).isSome := by
 obtain ⟨e1, e2⟩ := hds_eq h
 unfold standP
 rw [stB_bit x hx, List.any_append, e1, e2, ← hdOf_some]
 simp only [Nat.zero_testBit, Bool.false_or, List.any_map]
 exact any_part _ _ _
def psF (st : Nat) (R : List Nat) : Nat → Nat → List (Nat × Nat)
 | 0, _ => []
 | n + 1, x => if st.testBit x then psF st R n (x + 1) else (x, R.getD x 0) :: psF st R n (x + 1)
def psL (st : Nat) (R : List Nat) : List (Nat × Nat) := psF st R 26 0
theorem psF_mem {st : Nat} {R : List Nat} : ∀ (n x : Nat) (p : Nat × Nat), p ∈ psF st R n x → x ≤ p.1 ∧ p.1 < x + n ∧ st.testBit p.1 = false ∧ p.2 = R.getD p.1 0
 | 0, x, p, h => by cases h
 | n + 1, x, p, h => by
  unfold psF at h
  split at h
  ·obtain ⟨a, b, c, d⟩ := psF_mem n (x + 1) p h
   exact ⟨by omega, by omega, c, d⟩
  ·rename_i hs
   rcases List.mem_cons.mp h with rfl | h
   ·exact ⟨Nat.le_refl _, by simp, by simpa using hs, rfl⟩
   ·obtain ⟨a, b, c, d⟩ := psF_mem n (x + 1) p h
    exact ⟨by omega, by omega, c, d⟩
theorem psF_pair {st : Nat} {R : List Nat} : ∀ (n x : Nat), (psF st R n x).Pairwise (fun a b => a.1 ≠ b.1)
 | 0, x => List.Pairwise.nil
 | n + 1, x => by
  unfold psF
  split
  ·exact psF_pair n (x + 1)
  ·refine List.Pairwise.cons (fun b hb => ?_) (psF_pair n (x + 1))
   have := (psF_mem n (x + 1) b hb).1
   simp only
   omega
theorem psF_of {st : Nat} {R : List Nat} : ∀ (n x y : Nat), x ≤ y → y < x + n → prOf (psF st R n x) y = if st.testBit y then none else some (R.getD y 0)
 | 0, x, y, h1, h2 => by omega
 | n + 1, x, y, h1, h2 => by
  unfold psF
  by_cases e : x = y
  ·subst e
   split
   ·rename_i hs
    cases hp : prOf (psF st R n (x + 1)) x with
    | none => rfl
    | some m =>
     have := (psF_mem n (x + 1) _ (prOf_mem _ _ _ hp)).1
     simp only at this
     omega
   ·unfold prOf
    rw [if_pos rfl]
  ·split
   ·exact psF_of n (x + 1) y (by omega) (by omega)
   ·unfold prOf
    rw [if_neg e]
    exact psF_of n (x + 1) y (by omega) (by omega)
theorem labB_less : ∀ m, m < 16 → ∀ k, k < 4 → m.testBit k = true → (labB (m - 2 ^ k)).length ≤ (labB m).length ∧ (m - 2 ^ k).testBit k = false ∧ m - 2 ^ k < 16 := by decide
theorem preB_len : ∀ (n x st : Nat) (R S : List Nat), (∀ i, (labB (S.getD i 0)).length ≤ (labB (R.getD i 0)).length) → (preB (psF st S n x)).length ≤ (preB (psF st R n x)).length
 | 0, x, st, R, S, h => Nat.le_refl _
 | n + 1, x, st, R, S, h => by
  have ih := preB_len n (x + 1) st R S h
  unfold psF
  split
  ·exact ih
  ·have := h x
   unfold preB hdB
   simp only [List.length_append]
   omega
structure PsOk (t : List UInt8) (ps : List (Nat × Nat)) : Prop where
 small : ∀ p ∈ ps, p.1 < 26 ∧ p.2 < 16
 apart : ps.Pairwise (fun a b => a.1 ≠ b.1)
 free : ∀ p ∈ ps, hdOf (parseH t).2 p.1 = none
 all : ∀ x, x < 26 → prOf ps x = none → hdOf (parseH t).2 x ≠ none
theorem psL_ok {t : List UInt8} {R : List Nat} (h : (parseR t).1.bad = false) (hR : ∀ i, R.getD i 0 < 16) : PsOk t (psL (standP t) R) := by
 refine ⟨fun p hp => ?_, psF_pair 26 0, fun p hp => ?_, fun x hx hn => ?_⟩
 ·obtain ⟨a, b, c, d⟩ := psF_mem 26 0 p hp
  exact ⟨by omega, by rw [d]; exact hR _⟩
 ·obtain ⟨a, b, c, d⟩ := psF_mem 26 0 p hp
  rw [standP_bit h p.1 (by omega)] at c
  simpa using c
 ·unfold psL at hn
  rw [psF_of 26 0 x (by omega) (by omega)] at hn
  have hb := standP_bit h x hx
  intro e
  rw [e] at hb
  simp at hb
  rw [hb] at hn
  simp at hn
structure FineT (t : List UInt8) : Prop where
 len : t.length ≤ 400
 bad : (parseR t).1.bad = false
 once : twiceL [] (parseH t).2 = none
 work : ¬ 5000 < workS 9 (parseR t).2
 clean : cleanF (labelsP (parseH t).2 (parseR t).2) 9 0 (parseR t).2 = none
 parse : ParseOk t
theorem fineT {t : List UInt8} (h : (checkP t).1 = 0) : FineT t := by
 unfold checkP at h
 split at h
 ·simp at h
 rename_i h1
 split at h
 ·simp at h
 rename_i h2
 simp only [Bool.not_eq_true] at h2
 cases h3 : twiceL [] (parseH t).2 with
 | some p => rw [h3] at h; simp at h
 | none =>
  rw [h3] at h
  simp only at h
  split at h
  ·simp at h
  rename_i h4
  cases h5 : cleanF (labelsP (parseH t).2 (parseR t).2) 9 0 (parseR t).2 with
  | some p => rw [h5] at h; simp at h
  | none => exact ⟨by omega, h2, h3, h4, h5, parse_ok (by omega) h2⟩
theorem labs_fine {t : List UInt8} (h : (checkP t).1 = 0) : (labsP t).length = 26 ∧ (∀ i, (labsP t).getD i 0 < 16) ∧ labsP t = labelsP (parseH t).2 (parseR t).2 := by
 have f := fineT h
 have e : labsP t = labelsP (parseH t).2 (parseR t).2 := by unfold labsP; rw [if_pos h]
 have o := labelsP_ok f.parse.heads f.parse.tree
 rw [e]
 refine ⟨o.len, fun i => ?_, rfl⟩
 rw [List.getD_eq_getElem?_getD]
 cases hi : (labelsP (parseH t).2 (parseR t).2)[i]? with
 | none => simp
 | some m => exact o.lt m (List.mem_of_getElem? hi)
theorem least_full {t : List UInt8} (h : (checkP t).1 = 0) (hl : (preB (psL (standP t) (labsP t)) ++ t).length ≤ 400) :
  checkP (preB (psL (standP t) (labsP t)) ++ t) = (0, 0) ∧ labsP (preB (psL (standP t) (labsP t)) ++ t) = labsP t := by
 have f := fineT h
 obtain ⟨l1, l2, l3⟩ := labs_fine h
 have o := psL_ok f.bad l2
 have hof : ∀ p ∈ psL (standP t) (labsP t), p.2 = (labelsP (parseH t).2 (parseR t).2).getD p.1 0 := fun p hp => by
  rw [← l3]
  exact (psF_mem 26 0 p hp).2.2.2
 obtain ⟨a, b⟩ := told_full f.bad f.once f.work f.parse o.small o.apart o.free o.all hl hof f.clean
 refine ⟨a, ?_⟩
 exact ((labs_fine (t := preB (psL (standP t) (labsP t)) ++ t) (by rw [a])).2.2.trans b).trans l3.symm
theorem least_less {t : List UInt8} (h : (checkP t).1 = 0) (hl : (preB (psL (standP t) (labsP t)) ++ t).length ≤ 400) {x k : Nat} (hx : x < 26) (hk : k < 4) (hs : (standP t).testBit x = false) (hb : ((labsP t).getD x 0).testBit k = true) :
  (preB (psL (standP t) ((labsP t).set x ((labsP t).getD x 0 - 2 ^ k))) ++ t).length ≤ 400 ∧ (checkP (preB (psL (standP t) ((labsP t).set x ((labsP t).getD x 0 - 2 ^ k))) ++ t)).1 = 5 := by
 have f := fineT h
 obtain ⟨l1, l2, l3⟩ := labs_fine h
 obtain ⟨k1, k2, k3⟩ := labB_less _ (l2 x) k hk hb
 have hg : ∀ i, ((labsP t).set x ((labsP t).getD x 0 - 2 ^ k)).getD i 0 = if x = i then (labsP t).getD x 0 - 2 ^ k else (labsP t).getD i 0 := fun i => by
  rw [List.getD_eq_getElem?_getD, List.getElem?_set]
  by_cases e : x = i
  ·subst e
   rw [if_pos rfl, if_pos rfl, if_pos (by omega)]
   rfl
  ·rw [if_neg e, if_neg e, ← List.getD_eq_getElem?_getD]
 have o := psL_ok (R := (labsP t).set x ((labsP t).getD x 0 - 2 ^ k)) f.bad (fun i => by rw [hg]; split; exact k3; exact l2 i)
 have hlen : (preB (psL (standP t) ((labsP t).set x ((labsP t).getD x 0 - 2 ^ k))) ++ t).length ≤ 400 := by
  have := preB_len 26 0 (standP t) (labsP t) ((labsP t).set x ((labsP t).getD x 0 - 2 ^ k)) (fun i => by
   rw [hg]
   split
   ·rename_i e; subst e; exact k1
   ·exact Nat.le_refl _)
  rw [List.length_append] at hl ⊢
  unfold psL at hl ⊢
  omega
 refine ⟨hlen, told_less f.bad f.once f.work f.parse o.small o.apart o.free o.all hlen hx (k := k) (by rw [← l3]; exact hb) ⟨(labsP t).getD x 0 - 2 ^ k, ?_, k2⟩⟩
 unfold psL
 rw [psF_of 26 0 x (by omega) (by omega), hs, hg, if_pos rfl]
 simp
end Go.Proofs.Ytdgmoiflahoihab
