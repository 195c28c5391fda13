import Derived.Test.YtdgmoiflahoihabPExx
import Derived.Test.YtdgmoiflahoihabRUPx
import Derived.Test.YtdgmoiflahoihabPSpx

namespace Go.Proofs.Ytdgmoiflahoihab
set_option linter.unusedSimpArgs false
set_option linter.unusedVariables false
def numC : List UInt8 → Int → Int
 | [], n => n
 | c :: l, n => numC l (10 * n + ((c.toNat : Int) - 48))
def valueF (C : List UInt8) (names : List Vl) : Nat → Nat → Nat → Option Vl
 | 0, _, _ => none
 | f + 1, lo, hi =>
  if hi ≤ lo then none
  else if 0 ≤ splitC C lo hi then
   match valueF C names f lo (splitC C lo hi).toNat, valueF C names f ((splitC C lo hi).toNat + 1) hi, C[(splitC C lo hi).toNat]? with
   | some x, some y, some c => some (opC c x y)
   | _, _, _ => none
  else
   match C[lo]? with
   | none => none
   | some c =>
    if c == 45 then (match valueF C names f (lo + 1) hi with | some x => some (opC 45 ⟨0, 0⟩ x) | none => none)
    else if c == 40 then valueF C names f (lo + 1) (hi - 1)
    else if nmB c then some (names.getD (c.toNat - 97) vl0)
    else if (seg C lo hi).all dgB && decide (hi ≤ lo + 18) then some ⟨numC (seg C lo hi) 0, 0⟩ else none
theorem spRun_app : ∀ (a b : List UInt8) (i : Nat) (s : Sp), spRun (a ++ b) i s = spRun b (i + a.length) (spRun a i s)
 | [], b, i, s => by simp [spRun]
 | c :: l, b, i, s => by
  simp only [List.cons_append, spRun, spRun_app l b, List.length_cons]
  congr 1
  omega
theorem seg_length {C : List UInt8} {i j : Nat} (h : j ≤ C.length) : (seg C i j).length = j - i := by unfold seg; simp; omega
def comb (s : Option (Nat × Nat)) (b : Int) (r : Nat) : Int × Nat :=
 match s with
 | none => (b, r)
 | some (k, q) => if r ≤ q then ((k : Int), q) else (b, r)
structure Ev (C : List UInt8) (i j : Nat) (s : Option (Nat × Nat)) (P : List Pt) : Prop where
 lt : i < j
 le : j ≤ C.length
 scan : ∀ b r, spRun (seg C i j) i ⟨0, false, b, r⟩ = ⟨0, true, (comb s b r).1, (comb s b r).2⟩
 deep : ∀ d p b r, 1 ≤ d → spRun (seg C i j) i ⟨d, p, b, r⟩ = ⟨d, true, b, r⟩
 val : ∃ v : List Vl → Vl, (∀ names f, j - i ≤ f → valueF C names f i j = some (v names)) ∧ ∀ names st, pileV names P st = st ++ [v names]
theorem pileV_app (names : List Vl) : ∀ (P Q : List Pt) (st : List Vl), pileV names (P ++ Q) st = pileV names Q (pileV names P st)
 | [], Q, st => rfl
 | p :: r, Q, st => pileV_app names r Q _
theorem Ev.bin {C : List UInt8} {i k j q : Nat} {c : UInt8} {op : Int} {s u : Option (Nat × Nat)} {P Q : List Pt} (a : Ev C i k s P) (b : Ev C (k + 1) j u Q) (hc : C[k]? = some c) (hq : rankB c = q) (hq0 : 0 < q)
  (hs : ∀ x, s = some x → x.2 ≤ q) (hu : ∀ x, u = some x → x.2 < q) (hne : c ≠ 40 ∧ c ≠ 41 ∧ endsB c = false) (hop : ∀ x y, opC c x y = opV op x y) (ho : op ≠ 1 ∧ op ≠ 2 ∧ op ≠ 3) : Ev C i j (some (k, q)) (P ++ Q ++ [⟨op, 0⟩]) := by
 have ha := a.lt
 have hb := b.lt
 have e1 : seg C i j = seg C i k ++ (c :: seg C (k + 1) j) := by
  rw [seg_app (show i ≤ k by omega) (show k ≤ j by omega)]
  congr 1
  rw [seg_cons (show k < j by omega) b.le]
  obtain ⟨h1, h2⟩ := List.getElem?_eq_some_iff.mp hc
  rw [h2]
 have el : (seg C i k).length = k - i := seg_length a.le
 have hd : ∀ d, deepB c d = d := fun d => by simp [deepB, hne.1, hne.2.1]
 have hscan : ∀ bb r, spRun (seg C i j) i ⟨0, false, bb, r⟩ = ⟨0, true, (comb (some (k, q)) bb r).1, (comb (some (k, q)) bb r).2⟩ := by
  intro bb r
  rw [e1, spRun_app, a.scan, el]
  simp only [spRun]
  rw [show i + (k - i) = k by omega]
  have hst : spStep ⟨0, true, (comb s bb r).1, (comb s bb r).2⟩ k c = ⟨0, false, (comb (some (k, q)) bb r).1, (comb (some (k, q)) bb r).2⟩ := by
   have hr : (comb s bb r).2 ≤ q ↔ r ≤ q := by
    cases s with
    | none => simp [comb]
    | some x =>
     obtain ⟨x1, x2⟩ := x
     have := hs _ rfl
     simp only at this
     simp only [comb]
     split <;> simp <;> omega
   unfold spStep takesB
   simp only [hd, hq, Int.le_refl, decide_true, Bool.true_and, hq0, hne.2.2]
   by_cases hrq : r ≤ q
   ·have h9 := hr.mpr hrq
    generalize comb s bb r = z at *
    simp [h9, comb, hrq]
   ·have h2 : ¬ (comb s bb r).2 ≤ q := fun h => hrq (hr.mp h)
    have h3 : comb s bb r = (bb, r) := by
     cases s with
     | none => rfl
     | some x =>
      obtain ⟨x1, x2⟩ := x
      have := hs _ rfl
      simp only at this
      simp only [comb]
      rw [if_neg (by omega)]
    rw [h3] at h2 ⊢
    simp [hrq, comb]
  rw [hst, b.scan]
  have hcu : comb u (comb (some (k, q)) bb r).1 (comb (some (k, q)) bb r).2 = comb (some (k, q)) bb r := by
   cases u with
   | none => rfl
   | some x =>
    obtain ⟨x1, x2⟩ := x
    have := hu _ rfl
    simp only at this
    show (if (comb (some (k, q)) bb r).2 ≤ x2 then ((x1 : Int), x2) else _) = _
    rw [if_neg]
    simp only [comb]
    split <;> simp <;> omega
  rw [hcu]
 refine ⟨by omega, b.le, hscan, fun d p bb r h1 => ?_, ?_⟩
 ·rw [e1, spRun_app, a.deep d p bb r h1, el]
  simp only [spRun]
  have hst : spStep ⟨d, true, bb, r⟩ (i + (k - i)) c = ⟨d, false, bb, r⟩ := by
   unfold spStep takesB
   simp only [hd]
   rw [if_neg (by simp; omega), hne.2.2]
  rw [hst, show i + (k - i) + 1 = k + 1 by omega]
  exact b.deep d false bb r h1
 ·obtain ⟨va, ha1, ha2⟩ := a.val
  obtain ⟨vb, hb1, hb2⟩ := b.val
  refine ⟨fun names => opV op (va names) (vb names), fun names f hf => ?_, fun names st => ?_⟩
  ·cases f with
   | zero => omega
   | succ f =>
    have hsp : splitC C i j = (k : Int) := by
     unfold splitC sp0
     rw [hscan]
     simp [comb]
    unfold valueF
    rw [if_neg (by omega), hsp]
    simp only [Int.toNat_natCast]
    rw [if_pos (by omega), ha1 names f (by omega), hb1 names f (by omega), hc]
    simp only [hop]
  ·rw [pileV_app, pileV_app, ha2, hb2]
   show (takeV names ⟨op, 0⟩ (st ++ [va names] ++ [vb names])).2 ++ [(takeV names ⟨op, 0⟩ (st ++ [va names] ++ [vb names])).1] = _
   have et : takeV names ⟨op, 0⟩ (st ++ [va names] ++ [vb names]) = (opV op (va names) (vb names), st) := by
    unfold takeV
    simp [ho.1, ho.2.1, ho.2.2, topV]
   rw [et]
end Go.Proofs.Ytdgmoiflahoihab
namespace Go.Proofs.Ytdgmoiflahoihab
set_option linter.unusedSimpArgs false
set_option linter.unusedVariables false
theorem sp_end {s : Sp} {i : Nat} {c : UInt8} (hr : rankB c = 0) (hd : deepB c s.d = s.d) (he : endsB c = true) : spStep s i c = ⟨s.d, true, s.b, s.r⟩ := by
 unfold spStep takesB
 rw [if_neg (by simp [hr]), hd, he]
theorem sp_quiet : ∀ (l : List UInt8) (i : Nat) (s : Sp), (∀ c ∈ l, rankB c = 0 ∧ (∀ d, deepB c d = d) ∧ endsB c = true) → l ≠ [] → spRun l i s = ⟨s.d, true, s.b, s.r⟩
 | [], i, s, h, hn => absurd rfl hn
 | [c], i, s, h, hn => by
  obtain ⟨a, b, d⟩ := h c (by simp)
  simp only [spRun]
  exact sp_end a (b _) d
 | c :: e :: l, i, s, h, hn => by
  obtain ⟨a, b, d⟩ := h c (by simp)
  simp only [spRun]
  rw [sp_end a (b _) d]
  exact sp_quiet (e :: l) (i + 1) _ (fun x hx => h x (by simp [hx])) (by simp)
theorem dg_facts {c : UInt8} (h : dgB c = true) : rankB c = 0 ∧ (∀ d, deepB c d = d) ∧ endsB c = true ∧ (c == 45) = false ∧ (c == 40) = false ∧ nmB c = false := by
 have hn : 48 ≤ c.toNat ∧ c.toNat ≤ 57 := by simpa [dgB] using h
 have hne : ∀ k : UInt8, (k.toNat < 48 ∨ 57 < k.toNat) → (c == k) = false := by intro k hk; simp; intro e; subst e; omega
 refine ⟨?_, fun d => ?_, by simp [endsB, h], hne 45 (by decide), hne 40 (by decide), by simp [nmB]; omega⟩
 ·unfold rankB
  rw [hne 60 (by decide), hne 61 (by decide), hne 43 (by decide), hne 45 (by decide), hne 42 (by decide), hne 47 (by decide), hne 37 (by decide)]
  rfl
 ·unfold deepB
  rw [hne 40 (by decide), hne 41 (by decide)]
  rfl
theorem nm_facts {c : UInt8} (h : nmB c = true) : rankB c = 0 ∧ (∀ d, deepB c d = d) ∧ endsB c = true ∧ (c == 45) = false ∧ (c == 40) = false := by
 have hn : 97 ≤ c.toNat ∧ c.toNat ≤ 122 := by simpa [nmB] using h
 have hne : ∀ k : UInt8, (k.toNat < 97 ∨ 122 < k.toNat) → (c == k) = false := by intro k hk; simp; intro e; subst e; omega
 refine ⟨?_, fun d => ?_, by simp [endsB, h], hne 45 (by decide), hne 40 (by decide)⟩
 ·unfold rankB
  rw [hne 60 (by decide), hne 61 (by decide), hne 43 (by decide), hne 45 (by decide), hne 42 (by decide), hne 47 (by decide), hne 37 (by decide)]
  rfl
 ·unfold deepB
  rw [hne 40 (by decide), hne 41 (by decide)]
  rfl
theorem seg_all {C : List UInt8} {i j : Nat} {p : UInt8 → Prop} (hj : j ≤ C.length) (h : ∀ k, i ≤ k → k < j → ∃ c, C[k]? = some c ∧ p c) : ∀ c ∈ seg C i j, p c := by
 intro c hc
 unfold seg at hc
 obtain ⟨k, hk, rfl⟩ := List.getElem_of_mem hc
 simp at hk
 obtain ⟨d, hd1, hd2⟩ := h (i + k) (by omega) (by omega)
 simp only [List.getElem_take, List.getElem_drop]
 have : C[i + k]? = some C[i + k] := List.getElem?_eq_getElem (by omega)
 rw [hd1] at this
 cases this
 exact hd2
theorem seg_ne {C : List UInt8} {i j : Nat} (h : i < j) (hj : j ≤ C.length) : seg C i j ≠ [] := by rw [seg_cons h hj]; simp
theorem Ev.number {C : List UInt8} {i j : Nat} (hij : i < j) (hj : j ≤ C.length) (hn : j ≤ i + 18) (h : ∀ k, i ≤ k → k < j → ∃ c, C[k]? = some c ∧ dgB c = true) : Ev C i j none [⟨1, numC (seg C i j) 0⟩] := by
 have hall := seg_all hj h
 have hq : ∀ s, spRun (seg C i j) i s = ⟨s.d, true, s.b, s.r⟩ := fun s => sp_quiet _ i s (fun c hc => ⟨(dg_facts (hall c hc)).1, (dg_facts (hall c hc)).2.1, (dg_facts (hall c hc)).2.2.1⟩) (seg_ne hij hj)
 refine ⟨hij, hj, fun b r => hq _, fun d p b r _ => hq _, fun names => ⟨numC (seg C i j) 0, 0⟩, fun names f hf => ?_, fun names st => ?_⟩
 ·cases f with
  | zero => omega
  | succ f =>
   have hsp : splitC C i j = -1 := by unfold splitC; rw [hq]; rfl
   obtain ⟨c, hc, hd⟩ := h i (Nat.le_refl _) hij
   have k := dg_facts hd
   unfold valueF
   rw [if_neg (by omega), hsp, if_neg (by decide), hc]
   have hz : ((seg C i j).all dgB && decide (j ≤ i + 18)) = true := by
    simp only [Bool.and_eq_true, decide_eq_true_eq]
    exact ⟨List.all_eq_true.mpr hall, hn⟩
   simp only [k.2.2.2.1, k.2.2.2.2.1, k.2.2.2.2.2, Bool.false_eq_true, if_false, hz, if_true]
 ·simp [pileV, takeV]
theorem Ev.name {C : List UInt8} {i : Nat} {c : UInt8} (hc : C[i]? = some c) (hn : nmB c = true) : Ev C i (i + 1) none [⟨2, (c.toNat : Int) - 97⟩] := by
 have hl := (List.getElem?_eq_some_iff.mp hc).1
 have k := nm_facts hn
 have hsg := seg_one hc
 have hq : ∀ s, spRun (seg C i (i + 1)) i s = ⟨s.d, true, s.b, s.r⟩ := fun s => by
  rw [hsg]
  simp only [spRun]
  exact sp_end k.1 (k.2.1 _) k.2.2.1
 refine ⟨by omega, by omega, fun b r => hq _, fun d p b r _ => hq _, fun names => names.getD (c.toNat - 97) vl0, fun names f hf => ?_, fun names st => ?_⟩
 ·cases f with
  | zero => omega
  | succ f =>
   have hsp : splitC C i (i + 1) = -1 := by unfold splitC; rw [hq]; rfl
   unfold valueF
   rw [if_neg (by omega), hsp, if_neg (by decide), hc]
   simp only [k.2.2.2.1, k.2.2.2.2, Bool.false_eq_true, if_false, hn, if_true]
 ·have e : ((c.toNat : Int) - 97).toNat = c.toNat - 97 := by omega
  simp [pileV, takeV, e]
theorem Ev.paren {C : List UInt8} {i j : Nat} {s : Option (Nat × Nat)} {P : List Pt} (a : Ev C (i + 1) j s P) (ho : C[i]? = some 40) (hc : C[j]? = some 41) : Ev C i (j + 1) none P := by
 have hlt := a.lt
 have hl2 := (List.getElem?_eq_some_iff.mp hc).1
 obtain ⟨hl, he⟩ := List.getElem?_eq_some_iff.mp ho
 have e1 : seg C i (j + 1) = 40 :: (seg C (i + 1) j ++ [41]) := by
  rw [seg_cons (show i < j + 1 by omega) (by omega), he, seg_app (show i + 1 ≤ j by omega) (show j ≤ j + 1 by omega), seg_one hc]
 have el : (seg C (i + 1) j).length = j - (i + 1) := seg_length a.le
 have hq : ∀ d p b r, 0 ≤ d → spRun (seg C i (j + 1)) i ⟨d, p, b, r⟩ = ⟨d, true, b, r⟩ := by
  intro d p b r hd
  rw [e1]
  simp only [spRun]
  have h1 : spStep ⟨d, p, b, r⟩ i 40 = ⟨d + 1, false, b, r⟩ := by
   unfold spStep takesB
   have : rankB 40 = 0 := by decide
   rw [if_neg (by simp [this])]
   rfl
  rw [h1, spRun_app, a.deep (d + 1) false b r (by omega)]
  simp only [spRun]
  unfold spStep takesB
  have h2 : rankB 41 = 0 := by decide
  rw [if_neg (by simp [h2])]
  have h3 : deepB 41 (d + 1) = d := by show d + 1 - 1 = d; omega
  simp only [h3]
  rfl
 obtain ⟨v, h1, h2⟩ := a.val
 refine ⟨by omega, by omega, fun b r => hq 0 false b r (by omega), fun d p b r hd => hq d p b r (by omega), v, fun names f hf => ?_, h2⟩
 cases f with
 | zero => omega
 | succ f =>
  have hsp : splitC C i (j + 1) = -1 := by unfold splitC sp0; rw [hq 0 false _ _ (by omega)]
  unfold valueF
  rw [if_neg (by omega), hsp, if_neg (by decide), ho]
  simp only [show ((40 : UInt8) == 45) = false by decide, show ((40 : UInt8) == 40) = true by decide, Bool.false_eq_true, if_false, if_true]
  exact h1 names f (by omega)
theorem Ev.neg {C : List UInt8} {i j : Nat} {P : List Pt} (a : Ev C (i + 1) j none P) (ho : C[i]? = some 45) : Ev C i j none (P ++ [⟨3, 0⟩]) := by
 have hlt := a.lt
 have hle := a.le
 obtain ⟨hl, he⟩ := List.getElem?_eq_some_iff.mp ho
 have e1 : seg C i j = 45 :: seg C (i + 1) j := by rw [seg_cons (show i < j by omega) a.le, he]
 have hsc : ∀ b r, spRun (seg C i j) i ⟨0, false, b, r⟩ = ⟨0, true, b, r⟩ := by
  intro b r
  rw [e1]
  simp only [spRun]
  have h1 : spStep ⟨0, false, b, r⟩ i 45 = ⟨0, false, b, r⟩ := by
   unfold spStep takesB
   rw [if_neg (by simp)]
   rfl
  rw [h1]
  exact a.scan b r
 obtain ⟨v, h1, h2⟩ := a.val
 refine ⟨by omega, a.le, hsc, fun d p b r hd => ?_, fun names => negV (v names), fun names f hf => ?_, fun names st => ?_⟩
 ·rw [e1]
  simp only [spRun]
  have h1 : spStep ⟨d, p, b, r⟩ i 45 = ⟨d, false, b, r⟩ := by
   unfold spStep takesB
   have h3 : deepB 45 d = d := rfl
   simp only [h3]
   rw [if_neg (by simp; omega)]
   rfl
  rw [h1]
  exact a.deep d false b r hd
 ·cases f with
  | zero => omega
  | succ f =>
   have hsp : splitC C i j = -1 := by unfold splitC sp0; rw [hsc]
   unfold valueF
   rw [if_neg (by omega), hsp, if_neg (by decide), ho]
   simp only [show ((45 : UInt8) == 45) = true by decide, if_true, h1 names f (by omega)]
   rw [negV_op]
   unfold opC opV numsV
   simp
 ·rw [pileV_app, h2]
  show (takeV names ⟨3, 0⟩ (st ++ [v names])).2 ++ [(takeV names ⟨3, 0⟩ (st ++ [v names])).1] = _
  have et : takeV names ⟨3, 0⟩ (st ++ [v names]) = (negV (v names), st) := by
   unfold takeV
   simp [topV]
  rw [et]
theorem Ev.negs {C : List UInt8} {j : Nat} {P : List Pt} : ∀ (k i : Nat), Ev C (i + k) j none P → (∀ q, q < k → C[i + q]? = some 45) → Ev C i j none (P ++ negs k)
 | 0, i, a, h => by simpa [Go.Proofs.Ytdgmoiflahoihab.negs] using a
 | k + 1, i, a, h => by
  have b : Ev C (i + 1) j none (P ++ Go.Proofs.Ytdgmoiflahoihab.negs k) := Ev.negs k (i + 1) (by rw [show i + 1 + k = i + (k + 1) by omega]; exact a) (fun q hq => by rw [show i + 1 + q = i + (q + 1) by omega]; exact h (q + 1) (by omega))
  have c := Ev.neg b (h 0 (by omega))
  have e : P ++ Go.Proofs.Ytdgmoiflahoihab.negs (k + 1) = P ++ Go.Proofs.Ytdgmoiflahoihab.negs k ++ [⟨3, 0⟩] := by
   unfold Go.Proofs.Ytdgmoiflahoihab.negs
   rw [List.replicate_succ', List.append_assoc]
  rw [e]
  exact c
end Go.Proofs.Ytdgmoiflahoihab
