import Derived.Test.YtdgmoiflahoihaaGreatDoorPSgw
import Derived.Test.YtdgmoiflahoihaaGreatDoorRUPw
import Derived.Test.YtdgmoiflahoihaaGreatDoorPlainw

namespace Go.Proofs.YtdgmoiflahoihaaGreatDoor
set_option linter.unusedSimpArgs false
set_option linter.unusedVariables false
def numC : List UInt8 → Int → Int
 | [], n => n
 | c :: l, n => numC l (10 * n + ((c.toNat : Int) - 48))
def valueF (C : List UInt8) (names : List Vl) : Nat → Nat → Nat → Option Vl
 | 0, _, _ => none
 | f + 1, lo, hi =>
  if hi ≤ lo then none
  else if 0 ≤ splitC C lo hi then
   match valueF C names f lo (splitC C lo hi).toNat, valueF C names f ((splitC C lo hi).toNat + 1) hi, C[(splitC C lo hi).toNat]? with
   | some x, some y, some c => some (opC c x y)
   | _, _, _ => none
  else
   match C[lo]? with
   | none => none
   | some c =>
    if c == 45 then (match valueF C names f (lo + 1) hi with | some x => some (opC 45 ⟨0, 0⟩ x) | none => none)
    else if c == 40 then valueF C names f (lo + 1) (hi - 1)
    else if nmB c then some (names.getD (c.toNat - 97) vl0)
    else if (seg C lo hi).all dgB && decide (hi ≤ lo + 18) then some ⟨numC (seg C lo hi) 0, 0⟩ else none
theorem spRun_app : ∀ (a b : List UInt8) (i : Nat) (s : Sp), spRun (a ++ b) i s = spRun b (i + a.length) (spRun a i s)
 | [], b, i, s => by simp [spRun]
 | c :: l, b, i, s => by
  simp only [List.cons_append, spRun, spRun_app l b, List.length_cons]
  congr 1
  omega
theorem seg_length {C : List UInt8} {i j : Nat} (h : j ≤ C.length) : (seg C i j).length = j - i := by unfold seg; simp; omega
def comb (s : Option (Nat × Nat)) (b : Int) (r : Nat) : Int × Nat :=
 match s with
 | none => (b, r)
 | some (k, q) => if r ≤ q then ((k : Int), q) else (b, r)
structure Ev (C : List UInt8) (i j : Nat) (s : Option (Nat × Nat)) (P : List Pt) : Prop where
 lt : i < j
 le : j ≤ C.length
 scan : ∀ b r, spRun (seg C i j) i ⟨0, false, b, r⟩ = ⟨0, true, (comb s b r).1, (comb s b r).2⟩
 deep : ∀ d p b r, 1 ≤ d → spRun (seg C i j) i ⟨d, p, b, r⟩ = ⟨d, true, b, r⟩
 val : ∃ v : List Vl → Vl, (∀ names f, j - i ≤ f → valueF C names f i j = some (v names)) ∧ ∀ names st, pileV names P st = st ++ [v names]
theorem pileV_app (names : List Vl) : ∀ (P Q : List Pt) (st : List Vl), pileV names (P ++ Q) st = pileV names Q (pileV names P st)
 | [], Q, st => rfl
 | p :: r, Q, st => pileV_app names r Q _
theorem Ev.bin {C : List UInt8} {i k j q : Nat} {c : UInt8} {op : Int} {s u : Option (Nat × Nat)} {P Q : List Pt} (a : Ev C i k s P) (b : Ev C (k + 1) j u Q) (hc : C[k]? = some c) (hq : rankB c = q) (hq0 : 0 < q)
  (hs : ∀ x, s = some x → x.2 ≤ q) (hu : ∀ x, u = some x → x.2 < q) (hne : c ≠ 40 ∧ c ≠ 41 ∧ endsB c = false) (hop : ∀ x y, opC c x y = opV op x y) (ho : op ≠ 1 ∧ op ≠ 2 ∧ op ≠ 3) : Ev C i j (some (k, q)) (P ++ Q ++ [⟨op, 0⟩]) := by
 have ha := a.lt
 have hb := b.lt
 have e1 : seg C i j = seg C i k ++ (c :: seg C (k + 1) j) := by
  rw [seg_app (show i ≤ k by omega) (show k ≤ j by omega)]
  congr 1
  rw [seg_cons (show k < j by omega) b.le]
  obtain ⟨h1, h2⟩ := List.getElem?_eq_some_iff.mp hc
  rw [h2]
 have el : (seg C i k).length = k - i := seg_length a.le
 have hd : ∀ d, deepB c d = d := fun d => by simp [deepB, hne.1, hne.2.1]
 have hscan : ∀ bb r, spRun (seg C i j) i ⟨0, false, bb, r⟩ = ⟨0, true, (comb (some (k, q)) bb r).1, (comb (some (k, q)) bb r).2⟩ := by
  intro bb r
  rw [e1, spRun_app, a.scan, el]
  simp only [spRun]
  rw [show i + (k - i) = k by omega]
  have hst : spStep ⟨0, true, (comb s bb r).1, (comb s bb r).2⟩ k c = ⟨0, false, (comb (some (k, q)) bb r).1, (comb (some (k, q)) bb r).2⟩ := by
   have hr : (comb s bb r).2 ≤ q ↔ r ≤ q := by
    cases s with
    | none => simp [comb]
    | some x =>
     obtain ⟨x1, x2⟩ := x
     have := hs _ rfl
     simp only at this
     simp only [comb]
     split <;> simp <;> omega
   unfold spStep takesB
   simp only [hd, hq, Int.le_refl, decide_true, Bool.true_and, hq0, hne.2.2]
   by_cases hrq : r ≤ q
   ·have h9 := hr.mpr hrq
    generalize comb s bb r = z at *
    simp [h9, comb, hrq]
   ·have h2 : ¬ (comb s bb r).2 ≤ q := fun h => hrq (hr.mp h)
    have h3 : comb s bb r = (bb, r) := by
     cases s with
     | none => rfl
     | some x =>
      obtain ⟨x1, x2⟩ := x
      have := hs _ rfl
      simp only at this
      simp only [comb]
      rw [if_neg (by omega)]
    rw [h3] at h2 ⊢
    simp [hrq, comb]
  rw [hst, b.scan]
  have hcu : comb u (comb (some (k, q)) bb r).1 (comb (some (k, q)) bb r).2 = comb (some (k, q)) bb r := by
   cases u with
   | none => rfl
   | some x =>
    obtain ⟨x1, x2⟩ := x
    have := hu _ rfl
    simp only at this
    show (if (comb (some (k, q)) bb r).2 ≤ x2 then ((x1 : Int), x2) else _) = _
    rw [if_neg]
    simp only [comb]
    split <;> simp <;> omega
  rw [hcu]
 refine ⟨by omega, b.le, hscan, fun d p bb r h1 => ?_, ?_⟩
 ·rw [e1, spRun_app, a.deep d p bb r h1, el]
  simp only [spRun]
  have hst : spStep ⟨d, true, bb, r⟩ (i + (k - i)) c = ⟨d, false, bb, r⟩ := by
   unfold spStep takesB
   simp only [hd]
   rw [if_neg (by simp; omega), hne.2.2]
  rw [hst, show i + (k - i) + 1 = k + 1 by omega]
  exact b.deep d false bb r h1
 ·obtain ⟨va, ha1, ha2⟩ := a.val
  obtain ⟨vb, hb1, hb2⟩ := b.val
  refine ⟨fun names => opV op (va names) (vb names), fun names f hf => ?_, fun names st => ?_⟩
  ·cases f with
   | zero => omega
   | succ f =>
    have hsp : splitC C i j = (k : Int) := by
     unfold splitC sp0
     rw [hscan]
     simp [comb]
    unfold valueF
    rw [if_neg (by omega), hsp]
    simp only [Int.toNat_natCast]
    rw [if_pos (by omega), ha1 names f (by omega), hb1 names f (by omega), hc]
    simp only [hop]
  ·rw [pileV_app, pileV_app, ha2, hb2]
   show (takeV names ⟨op, 0⟩ (st ++ [va names] ++ [vb names])).2 ++ [(takeV names ⟨op, 0⟩ (st ++ [va names] ++ [vb names])).1] = _
   have et : takeV names ⟨op, 0⟩ (st ++ [va names] ++ [vb names]) = (opV op (va names) (vb names), st) := by
    unfold takeV
    simp [ho.1, ho.2.1, ho.2.2, topV]
   rw [et]
end Go.Proofs.YtdgmoiflahoihaaGreatDoor
namespace Go.Proofs.YtdgmoiflahoihaaGreatDoor
set_option linter.unusedSimpArgs false
set_option linter.unusedVariables false
theorem sp_end {s : Sp} {i : Nat} {c : UInt8} (hr : rankB c = 0) (hd : deepB c s.d = s.d) (he : endsB c = true) : spStep s i c = ⟨s.d, true, s.b, s.r⟩ := by
 unfold spStep takesB
 rw [if_neg (by simp [hr]), hd, he]
theorem sp_quiet : ∀ (l : List UInt8) (i : Nat) (s : Sp), (∀ c ∈ l, rankB c = 0 ∧ (∀ d, deepB c d = d) ∧ endsB c = true) → l ≠ [] → spRun l i s = ⟨s.d, true, s.b, s.r⟩
 | [], i, s, h, hn => absurd rfl hn
 | [c], i, s, h, hn => by
  obtain ⟨a, b, d⟩ := h c (by simp)
  simp only [spRun]
  exact sp_end a (b _) d
 | c :: e :: l, i, s, h, hn => by
  obtain ⟨a, b, d⟩ := h c (by simp)
  simp only [spRun]
  rw [sp_end a (b _) d]
  exact sp_quiet (e :: l) (i + 1) _ (fun x hx => h x (by simp [hx])) (by simp)
theorem dg_facts {c : UInt8} (h : dgB c = true) : rankB c = 0 ∧ (∀ d, deepB c d = d) ∧ endsB c = true ∧ (c == 45) = false ∧ (c == 40) = false ∧ nmB c = false := by
 have hn : 48 ≤ c.toNat ∧ c.toNat ≤ 57 := by simpa [dgB] using h
 have hne : ∀ k : UInt8, (k.toNat < 48 ∨ 57 < k.toNat) → (c == k) = false := by intro k hk; simp; intro e; subst e; omega
 refine ⟨?_, fun d => ?_, by simp [endsB, h], hne 45 (by decide), hne 40 (by decide), by simp [nmB]; omega⟩
 ·unfold rankB
  rw [hne 60 (by decide), hne 61 (by decide), hne 43 (by decide), hne 45 (by decide), hne 42 (by decide), hne 47 (by decide), hne 37 (by decide)]
  rfl
 ·unfold deepB
  rw [hne 40 (by decide), hne 41 (by decide)]
  rfl
theorem nm_facts {c : UInt8} (h : nmB c = true) : rankB c = 0 ∧ (∀ d, deepB c d = d) ∧ endsB c = true ∧ (c == 45) = false ∧ (c == 40) = false := by
 have hn : 97 ≤ c.toNat ∧ c.toNat ≤ 122 := by simpa [nmB] using h
 have hne : ∀ k : UInt8, (k.toNat < 97 ∨ 122 < k.toNat) → (c == k) = false := by intro k hk; simp; intro e; subst e; omega
 refine ⟨?_, fun d => ?_, by simp [endsB, h], hne 45 (by decide), hne 40 (by decide)⟩
 ·unfold rankB
  rw [hne 60 (by decide), hne 61 (by decide), hne 43 (by decide), hne 45 (by decide), hne 42 (by decide), hne 47 (by decide), hne 37 (by decide)]
  rfl
 ·unfold deepB
  rw [hne 40 (by decide), hne 41 (by decide)]
  rfl
theorem seg_all {C : List UInt8} {i j : Nat} {p : UInt8 → Prop} (hj : j ≤ C.length) (h : ∀ k, i ≤ k → k < j → ∃ c, C[k]? = some c ∧ p c) : ∀ c ∈ seg C i j, p c := by
 intro c hc
 unfold seg at hc
 obtain ⟨k, hk, rfl⟩ := List.getElem_of_mem hc
 simp at hk
 obtain ⟨d, hd1, hd2⟩ := h (i + k) (by omega) (by omega)
 simp only [List.getElem_take, List.getElem_drop]
 have : C[i + k]? = some C[i + k] := List.getElem?_eq_getElem (by omega)
 rw [hd1] at this
 cases this
 exact hd2
theorem seg_ne {C : List UInt8} {i j : Nat} (h : i < j) (hj : j ≤ C.length) : seg C i j ≠ [] := by rw [seg_cons h hj]; simp
theorem Ev.number {C : List UInt8} {i j : Nat} (hij : i < j) (hj : j ≤ C.length) (hn : j ≤ i + 18) (h : ∀ k, i ≤ k → k < j → ∃ c, C[k]? = some c ∧ dgB c = true) : Ev C i j none [⟨1, numC (seg C i j) 0⟩] := by
 have hall := seg_all hj h
 have hq : ∀ s, spRun (seg C i j) i s = ⟨s.d, true, s.b, s.r⟩ := fun s => sp_quiet _ i s (fun c hc => ⟨(dg_facts (hall c hc)).1, (dg_facts (hall c hc)).2.1, (dg_facts (hall c hc)).2.2.1⟩) (seg_ne hij hj)
 refine ⟨hij, hj, fun b r => hq _, fun d p b r _ => hq _, fun names => ⟨numC (seg C i j) 0, 0⟩, fun names f hf => ?_, fun names st => ?_⟩
 ·cases f with
  | zero => omega
  | succ f =>
   have hsp : splitC C i j = -1 := by unfold splitC; rw [hq]; rfl
   obtain ⟨c, hc, hd⟩ := h i (Nat.le_refl _) hij
   have k := dg_facts hd
   unfold valueF
   rw [if_neg (by omega), hsp, if_neg (by decide), hc]
   have hz : ((seg C i j).all dgB && decide (j ≤ i + 18)) = true := by
    simp only [Bool.and_eq_true, decide_eq_true_eq]
    exact ⟨List.all_eq_true.mpr hall, hn⟩
   simp only [k.2.2.2.1, k.2.2.2.2.1, k.2.2.2.2.2, Bool.false_eq_true, if_false, hz, if_true]
 ·simp [pileV, takeV]
theorem Ev.name {C : List UInt8} {i : Nat} {c : UInt8} (hc : C[i]? = some c) (hn : nmB c = true) : Ev C i (i + 1) none [⟨2, (c.toNat : Int) - 97⟩] := by
 have hl := (List.getElem?_eq_some_iff.mp hc).1
 have k := nm_facts hn
 have hsg := seg_one hc
 have hq : ∀ s, spRun (seg C i (i + 1)) i s = ⟨s.d, true, s.b, s.r⟩ := fun s => by
  rw [hsg]
  simp only [spRun]
  exact sp_end k.1 (k.2.1 _) k.2.2.1
 refine ⟨by omega, by omega, fun b r => hq _, fun d p b r _ => hq _, fun names => names.getD (c.toNat - 97) vl0, fun names f hf => ?_, fun names st => ?_⟩
 ·cases f with
  | zero => omega
  | succ f =>
   have hsp : splitC C i (i + 1) = -1 := by unfold splitC; rw [hq]; rfl
   unfold valueF
   rw [if_neg (by omega), hsp, if_neg (by decide), hc]
   simp only [k.2.2.2.1, k.2.2.2.2, Bool.false_eq_true, if_false, hn, if_true]
 ·have e : ((c.toNat : Int) - 97).toNat = c.toNat - 97 := by omega
  simp [pileV, takeV, e]
theorem Ev.paren {C : List UInt8} {i j : Nat} {s : Option (Nat × Nat)} {P : List Pt} (a : Ev C (i + 1) j s P) (ho : C[i]? = some 40) (hc : C[j]? = some 41) : Ev C i (j + 1) none P := by
 have hlt := a.lt
 have hl2 := (List.getElem?_eq_some_iff.mp hc).1
 obtain ⟨hl, he⟩ := List.getElem?_eq_some_iff.mp ho
 have e1 : seg C i (j + 1) = 40 :: (seg C (i + 1) j ++ [41]) := by
  rw [seg_cons (show i < j + 1 by omega) (by omega), he, seg_app (show i + 1 ≤ j by omega) (show j ≤ j + 1 by omega), seg_one hc]
 have el : (seg C (i + 1) j).length = j - (i + 1) := seg_length a.le
 have hq : ∀ d p b r, 0 ≤ d → spRun (seg C i (j + 1)) i ⟨d, p, b, r⟩ = ⟨d, true, b, r⟩ := by
  intro d p b r hd
  rw [e1]
  simp only [spRun]
  have h1 : spStep ⟨d, p, b, r⟩ i 40 = ⟨d + 1, false, b, r⟩ := by
   unfold spStep takesB
   have : rankB 40 = 0 := by decide
   rw [if_neg (by simp [this])]
   rfl
  rw [h1, spRun_app, a.deep (d + 1) false b r (by omega)]
  simp only [spRun]
  unfold spStep takesB
  have h2 : rankB 41 = 0 := by decide
  rw [if_neg (by simp [h2])]
  have h3 : deepB 41 (d + 1) = d := by show d + 1 - 1 = d; omega
  simp only [h3]
  rfl
 obtain ⟨v, h1, h2⟩ := a.val
 refine ⟨by omega, by omega, fun b r => hq 0 false b r (by omega), fun d p b r hd => hq d p b r (by omega), v, fun names f hf => ?_, h2⟩
 cases f with
 | zero => omega
 | succ f =>
  have hsp : splitC C i (j + 1) = -1 := by unfold splitC sp0; rw [hq 0 false _ _ (by omega)]
  unfold valueF
  rw [if_neg (by omega), hsp, if_neg (by decide), ho]
  simp only [show ((40 : UInt8) == 45) = false by decide, show ((40 : UInt8) == 40) = true by decide, Bool.false_eq_true, if_false, if_true]
  exact h1 names f (by omega)
theorem Ev.neg {C : List UInt8} {i j : Nat} {P : List Pt} (a : Ev C (i + 1) j none P) (ho : C[i]? = some 45) : Ev C i j none (P ++ [⟨3, 0⟩]) := by
 have hlt := a.lt
 have hle := a.le
 obtain ⟨hl, he⟩ := List.getElem?_eq_some_iff.mp ho
 have e1 : seg C i j = 45 :: seg C (i + 1) j := by rw [seg_cons (show i < j by omega) a.le, he]
 have hsc : ∀ b r, spRun (seg C i j) i ⟨0, false, b, r⟩ = ⟨0, true, b, r⟩ := by
  intro b r
  rw [e1]
  simp only [spRun]
  have h1 : spStep ⟨0, false, b, r⟩ i 45 = ⟨0, false, b, r⟩ := by
   unfold spStep takesB
   rw [if_neg (by simp)]
   rfl
  rw [h1]
  exact a.scan b r
 obtain ⟨v, h1, h2⟩ := a.val
 refine ⟨by omega, a.le, hsc, fun d p b r hd => ?_, fun names => negV (v names), fun names f hf => ?_, fun names st => ?_⟩
 ·rw [e1]
  simp only [spRun]
  have h1 : spStep ⟨d, p, b, r⟩ i 45 = ⟨d, false, b, r⟩ := by
   unfold spStep takesB
   have h3 : deepB 45 d = d := rfl
   simp only [h3]
   rw [if_neg (by simp; omega)]
   rfl
  rw [h1]
  exact a.deep d false b r hd
 ·cases f with
  | zero => omega
  | succ f =>
   have hsp : splitC C i j = -1 := by unfold splitC sp0; rw [hsc]
   unfold valueF
   rw [if_neg (by omega), hsp, if_neg (by decide), ho]
   simp only [show ((45 : UInt8) == 45) = true by decide, if_true, h1 names f (by omega)]
   rw [negV_op]
   unfold opC opV numsV
   simp
 ·rw [pileV_app, h2]
  show (takeV names ⟨3, 0⟩ (st ++ [v names])).2 ++ [(takeV names ⟨3, 0⟩ (st ++ [v names])).1] = _
  have et : takeV names ⟨3, 0⟩ (st ++ [v names]) = (negV (v names), st) := by
   unfold takeV
   simp [topV]
  rw [et]
theorem Ev.negs {C : List UInt8} {j : Nat} {P : List Pt} : ∀ (k i : Nat), Ev C (i + k) j none P → (∀ q, q < k → C[i + q]? = some 45) → Ev C i j none (P ++ negs k)
 | 0, i, a, h => by simpa [Go.Proofs.YtdgmoiflahoihaaGreatDoor.negs] using a
 | k + 1, i, a, h => by
  have b : Ev C (i + 1) j none (P ++ Go.Proofs.YtdgmoiflahoihaaGreatDoor.negs k) := Ev.negs k (i + 1) (by rw [show i + 1 + k = i + (k + 1) by omega]; exact a) (fun q hq => by rw [show i + 1 + q = i + (q + 1) by omega]; exact h (q + 1) (by omega))
  have c := Ev.neg b (h 0 (by omega))
  have e : P ++ Go.Proofs.YtdgmoiflahoihaaGreatDoor.negs (k + 1) = P ++ Go.Proofs.YtdgmoiflahoihaaGreatDoor.negs k ++ [⟨3, 0⟩] := by
   unfold Go.Proofs.YtdgmoiflahoihaaGreatDoor.negs
   rw [List.replicate_succ', List.append_assoc]
  rw [e]
  exact c
end Go.Proofs.YtdgmoiflahoihaaGreatDoor
namespace Go.Proofs.YtdgmoiflahoihaaGreatDoor
set_option linter.unusedSimpArgs false
set_option linter.unusedVariables false
def hRun (B : Nat) : List Pt → Nat → Option Nat
 | [], k => some k
 | p :: r, k =>
  if p.op = 1 ∨ p.op = 2 then (if k + 1 ≤ B then hRun B r (k + 1) else none)
  else if p.op = 3 then (if 1 ≤ k then hRun B r k else none)
  else (if 2 ≤ k ∧ 4 ≤ p.op ∧ p.op ≤ 10 then hRun B r (k - 1) else none)
theorem hRun_cons (B : Nat) (p : Pt) (r : List Pt) (k : Nat) : hRun B (p :: r) k = if p.op = 1 ∨ p.op = 2 then (if k + 1 ≤ B then hRun B r (k + 1) else none) else if p.op = 3 then (if 1 ≤ k then hRun B r k else none) else (if 2 ≤ k ∧ 4 ≤ p.op ∧ p.op ≤ 10 then hRun B r (k - 1) else none) := rfl
theorem hRun_app {B : Nat} : ∀ (P Q : List Pt) (k k' : Nat), hRun B P k = some k' → hRun B (P ++ Q) k = hRun B Q k'
 | [], Q, k, k', h => by cases h; rfl
 | p :: r, Q, k, k', h => by
  rw [List.cons_append, hRun_cons]
  rw [hRun_cons] at h
  split at h
  ·rename_i h1
   rw [if_pos h1]
   split at h
   ·rename_i h2
    rw [if_pos h2]
    exact hRun_app r Q _ _ h
   ·cases h
  ·rename_i h1
   rw [if_neg h1]
   split at h
   ·rename_i h3
    rw [if_pos h3]
    split at h
    ·rename_i h2
     rw [if_pos h2]
     exact hRun_app r Q _ _ h
    ·cases h
   ·rename_i h3
    rw [if_neg h3]
    split at h
    ·rename_i h2
     rw [if_pos h2]
     exact hRun_app r Q _ _ h
    ·cases h
def Hg (m : Nat) (P : List Pt) : Prop := ∀ B k, k + m ≤ B → hRun B P k = some (k + 1)
theorem Hg.mono {m n : Nat} {P : List Pt} (h : Hg m P) (hm : m ≤ n) : Hg n P := fun B k hb => h B k (by omega)
theorem Hg.leaf {m : Nat} {p : Pt} (h : p.op = 1 ∨ p.op = 2) (hm : 1 ≤ m) : Hg m [p] := by
 intro B k hb
 unfold hRun
 rw [if_pos h, if_pos (by omega)]
 rfl
theorem Hg.negs {m : Nat} {P : List Pt} (h : Hg m P) (j : Nat) : Hg m (P ++ negs j) := by
 intro B k hb
 rw [hRun_app _ _ _ _ (h B k hb)]
 induction j with
 | zero => rfl
 | succ j ih =>
  unfold Go.Proofs.YtdgmoiflahoihaaGreatDoor.negs at ih ⊢
  rw [List.replicate_succ]
  unfold hRun
  rw [if_neg (by decide), if_pos rfl, if_pos (by omega)]
  exact ih
theorem Hg.bin {m n : Nat} {P Q : List Pt} {op : Int} (h : Hg m P) (g : Hg n Q) (hm : n + 1 ≤ m) (ho : 4 ≤ op ∧ op ≤ 10) : Hg m (P ++ Q ++ [⟨op, 0⟩]) := by
 intro B k hb
 rw [List.append_assoc, hRun_app _ _ _ _ (h B k hb), hRun_app _ _ _ _ (g B (k + 1) (by omega))]
 unfold hRun
 rw [if_neg (by simp only; omega), if_neg (by simp only; omega), if_pos ⟨by omega, ho⟩]
 rfl
end Go.Proofs.YtdgmoiflahoihaaGreatDoor
namespace Go.Proofs.YtdgmoiflahoihaaGreatDoor
set_option linter.unusedSimpArgs false
set_option linter.unusedVariables false
theorem at_depth {t : List UInt8} {r : Rd} {i : Nat} (h : AtI t r i) (d : Int) : AtI t { r with depth := d } i := ⟨h.pos, h.le⟩
theorem minus_at {t : List UInt8} : ∀ (n : Nat) (r : Rd) (i : Nat), AtI t r i → r.bad = false → AtI t (minusF t n r).1 (i + (minusF t n r).2) ∧ (minusF t n r).1.bad = false ∧ (∀ q, q < (minusF t n r).2 → (keptL t)[i + q]? = some 45) ∧ (minusF t n r).1.depth = r.depth
 | 0, r, i, h, hb => ⟨h, hb, fun q hq => absurd hq (by simp [minusF]), rfl⟩
 | n + 1, r, i, h, hb => by
  unfold minusF
  cases hs : r.seesOne t 45 45
  ·simp only [Bool.false_eq_true, if_false]
   exact ⟨h, hb, fun q hq => absurd hq (by omega), by trivial⟩
  ·simp only [if_true]
   obtain ⟨a1, a2, a3, _⟩ := take_at h hs
   obtain ⟨b1, b2, b3, b4⟩ := minus_at n _ (i + 1) a1 a2
   have h45 := (sees_one h hb 45).mp hs
   refine ⟨by rw [show i + ((minusF t n (r.takeOne t 45 45).1).2 + 1) = i + 1 + (minusF t n (r.takeOne t 45 45).1).2 by omega]; exact b1, b2, fun q hq => ?_, b4.trans a3⟩
   cases q with
   | zero => exact h45
   | succ q => rw [show i + (q + 1) = i + 1 + q by omega]; exact b3 q (by omega)
theorem dg_of {c : UInt8} (h1 : 48 ≤ c) (h2 : c ≤ 57) : dgB c = true := by
 rw [UInt8.le_iff_toNat_le] at h1 h2
 have e1 : (48 : UInt8).toNat = 48 := rfl
 have e2 : (57 : UInt8).toNat = 57 := rfl
 simp [dgB]
 omega
theorem nm_of {c : UInt8} (h1 : 97 ≤ c) (h2 : c ≤ 122) : nmB c = true := by
 rw [UInt8.le_iff_toNat_le] at h1 h2
 have e1 : (97 : UInt8).toNat = 97 := rfl
 have e2 : (122 : UInt8).toNat = 122 := rfl
 simp [nmB]
 omega
theorem num_at {t : List UInt8} : ∀ (n : Nat) (r : Rd) (v : Int) (i : Nat), AtI t r i → r.bad = false → ∃ j, i ≤ j ∧ j ≤ i + n ∧ AtI t (Rd.numF t n r v).1 j ∧ (Rd.numF t n r v).1.bad = false ∧ (∀ k, i ≤ k → k < j → ∃ c, (keptL t)[k]? = some c ∧ dgB c = true) ∧ (Rd.numF t n r v).2 = numC (seg (keptL t) i j) v ∧ (Rd.numF t n r v).1.depth = r.depth
 | 0, r, v, i, h, hb => ⟨i, Nat.le_refl _, by omega, h, hb, fun k h1 h2 => absurd h2 (by omega), by rw [seg_nil (Nat.le_refl _)]; rfl, rfl⟩
 | n + 1, r, v, i, h, hb => by
  unfold Rd.numF
  cases hs : r.seesOne t 48 57
  ·simp only [Bool.false_eq_true, if_false]
   exact ⟨i, Nat.le_refl _, by omega, h, hb, fun k h1 h2 => absurd h2 (by omega), by rw [seg_nil (Nat.le_refl _)]; rfl, by trivial⟩
  ·simp only [if_true]
   obtain ⟨a1, a2, a3, c, hc, c1, c2, hv⟩ := take_at h hs
   obtain ⟨j, b1, b1n, b2, b3, b4, b5, b6⟩ := num_at n _ (v * 10 + (r.takeOne t 48 57).2) (i + 1) a1 a2
   obtain ⟨hl, he⟩ := List.getElem?_eq_some_iff.mp hc
   refine ⟨j, by omega, by omega, b2, b3, fun k h1 h2 => ?_, ?_, b6.trans a3⟩
   ·by_cases hk : k = i
    ·subst hk; exact ⟨c, hc, dg_of c1 c2⟩
    ·exact b4 k (by omega) h2
   ·rw [b5, seg_cons (show i < j by omega) b2.le, he]
    show numC (seg (keptL t) (i + 1) j) _ = numC (seg (keptL t) (i + 1) j) _
    rw [hv]
    congr 1
    have e1 : ((48 : UInt8).toNat : Int) = 48 := rfl
    rw [e1]
    omega
theorem posL_lt (l : List UInt8) (k i : Nat) (h : i < (keptL l).length) : posL l k i < posL l k (i + 1) := by
 obtain ⟨_, _, h3, _⟩ := posL_facts l k i h
 rw [← h3]
 exact Nat.lt_of_lt_of_le (Nat.lt_succ_self _) (skipL_le _ _).1
theorem posL_mono (l : List UInt8) (k : Nat) : ∀ (d i : Nat), i + d ≤ (keptL l).length → 0 < d → posL l k i < posL l k (i + d)
 | 0, i, h, hd => absurd hd (by decide)
 | 1, i, h, hd => posL_lt l k i (by omega)
 | d + 2, i, h, hd => Nat.lt_trans (posL_mono l k (d + 1) i (by omega) (by omega)) (posL_lt l k (i + (d + 1)) (by omega))
theorem at_inj {t : List UInt8} {r : Rd} {i j : Nat} (h : AtI t r i) (k : AtI t r j) : i = j := by
 have e : posI t i = posI t j := h.pos.symm.trans k.pos
 have h1 := h.le
 have h2 := k.le
 unfold posI at e
 rcases Nat.lt_trichotomy i j with c | c | c
 ·have := posL_mono t 0 (j - i) i (by omega) (by omega)
  rw [show i + (j - i) = j by omega] at this
  omega
 ·exact c
 ·have := posL_mono t 0 (i - j) j (by omega) (by omega)
  rw [show j + (i - j) = i by omega] at this
  omega
def VSpec (t : List UInt8) (n q : Nat) (F : RP → RP) : Prop := ∀ (x : RP) (i : Nat), AtI t x.1 i → x.1.bad = false → x.1.depth ≤ 8 → 9 ≤ x.1.depth + n → (F x).1.bad = false →
 ∃ i' s P, AtI t (F x).1 i' ∧ (F x).2 = x.2 ++ P ∧ Ev (keptL t) i i' s P ∧ (∀ y, s = some y → y.2 < q) ∧ (F x).1.depth = x.1.depth ∧ Hg (3 * n + q) P
def VUnit (t : List UInt8) (n : Nat) (F : RP → RP) : Prop := ∀ (x : RP) (i : Nat), AtI t x.1 i → x.1.bad = false → x.1.depth ≤ 8 → 9 ≤ x.1.depth + n → (F x).1.bad = false →
 ∃ i' P, AtI t (F x).1 i' ∧ (F x).2 = x.2 ++ P ∧ Ev (keptL t) i i' none P ∧ (F x).1.depth = x.1.depth ∧ Hg (3 * n + 1) P
theorem plain_v {t : List UInt8} {cmp : RP → RP} {n : Nat} (hc : VSpec t n 4 cmp) (hcb : CmpBad cmp) : VUnit t (n + 1) (plainU t cmp) := by
 intro x i h hb h8 h9 hf
 unfold plainU at hf ⊢
 cases s1 : x.1.seesOne t 48 57
 ·simp only [s1, Bool.false_eq_true, if_false] at hf ⊢
  cases s2 : x.1.seesOne t 97 122
  ·simp only [s2, Bool.false_eq_true, if_false] at hf ⊢
   cases s3 : x.1.seesOne t 40 40
   ·simp only [s3, Bool.false_eq_true, if_false] at hf
    cases hf
   ·simp only [s3, if_true] at hf ⊢
    have h40 := (sees_one h hb 40).mp s3
    have hlt8 : ¬ 8 ≤ x.1.depth := by
      intro h8
      have ob : (x.1.opening t 40).bad = true := by
       have hr : x.1.room.bad = true := by unfold Rd.room; rw [if_pos h8]
       show (x.1.room.takeOne t 40 40).1.bad = true
       rw [takeOne_bad hr]; exact hr
      rw [hcb (x.1.opening t 40, x.2) ob] at hf
      have cb : ((x.1.opening t 40).closing t 41).bad = true := by
       show ((x.1.opening t 40).takeOne t 41 41).1.bad = true
       rw [takeOne_bad ob]; exact ob
      rw [cb] at hf
      cases hf
    have hroom : x.1.room = x.1 := by unfold Rd.room; rw [if_neg hlt8]
    obtain ⟨a1, a2, a3, _⟩ := take_at h s3
    have ad : (x.1.opening t 40).depth = x.1.depth + 1 := by
     show (x.1.room.takeOne t 40 40).1.depth + 1 = _
     rw [hroom, a3]
    have ao : AtI t (x.1.opening t 40) (i + 1) := by
     unfold Rd.opening
     rw [hroom]
     exact at_depth a1 _
    have ab : (x.1.opening t 40).bad = false := by
     show (x.1.room.takeOne t 40 40).1.bad = false
     rw [hroom]
     exact a2
    have hcf : (cmp (x.1.opening t 40, x.2)).1.bad = false := by
     cases hx : (cmp (x.1.opening t 40, x.2)).1.bad
     ·rfl
     ·exfalso
      have cb : ((cmp (x.1.opening t 40, x.2)).1.closing t 41).bad = true := by
       show ((cmp (x.1.opening t 40, x.2)).1.takeOne t 41 41).1.bad = true
       rw [takeOne_bad hx]; exact hx
      rw [cb] at hf
      cases hf
    obtain ⟨j, s, P, b1, b2, b3, _, b5, b6⟩ := hc (x.1.opening t 40, x.2) (i + 1) ao ab (by simp only; omega) (by simp only; omega) hcf
    cases s4 : (cmp (x.1.opening t 40, x.2)).1.seesOne t 41 41
    ·exfalso
     have := fail_at b1 s4
     have cb : ((cmp (x.1.opening t 40, x.2)).1.closing t 41).bad = true := by
      show ((cmp (x.1.opening t 40, x.2)).1.takeOne t 41 41).1.bad = true
      rw [this.1]
     rw [cb] at hf
     cases hf
    ·have h41 := (sees_one b1 hcf 41).mp s4
     obtain ⟨d1, d2, d3, _⟩ := take_at b1 s4
     refine ⟨j + 1, P, at_depth d1 _, b2, Ev.paren b3 h40 h41, ?_, b6.mono (by omega)⟩
     show ((cmp (x.1.opening t 40, x.2)).1.takeOne t 41 41).1.depth - 1 = x.1.depth
     rw [d3, b5]
     simp only
     omega
  ·simp only [s2, if_true] at hf ⊢
   obtain ⟨a1, a2, a3, c, hc', c1, c2, hv⟩ := take_at h s2
   refine ⟨i + 1, [⟨2, (c.toNat : Int) - 97⟩], a1, ?_, Ev.name hc' (nm_of c1 c2), a3, Hg.leaf (.inr rfl) (by omega)⟩
   rw [hv]
   rfl
 ·simp only [s1, if_true] at hf ⊢
  obtain ⟨a1, a2, a3, c, hc', c1, c2, hv⟩ := take_at h s1
  obtain ⟨j, b1, b1n, b2, b3, b4, b5, b6⟩ := num_at 17 _ (x.1.takeOne t 48 57).2 (i + 1) a1 a2
  obtain ⟨hl, he⟩ := List.getElem?_eq_some_iff.mp hc'
  have hval : (x.1.number t).2 = numC (seg (keptL t) i j) 0 := by
   unfold Rd.number
   rw [b5, seg_cons (show i < j by omega) b2.le, he, hv]
   show numC (seg (keptL t) (i + 1) j) _ = numC (seg (keptL t) (i + 1) j) _
   congr 1
   have e1 : ((48 : UInt8).toNat : Int) = 48 := rfl
   rw [e1]
   omega
  refine ⟨j, [⟨1, numC (seg (keptL t) i j) 0⟩], b2, by rw [hval], Ev.number (by omega) b2.le (by omega) (fun k h1 h2 => ?_), b6.trans a3, Hg.leaf (.inl rfl) (by omega)⟩
  by_cases hk : k = i
  ·subst hk; exact ⟨c, hc', dg_of c1 c2⟩
  ·exact b4 k (by omega) h2
theorem unit_v {t : List UInt8} {cmp : RP → RP} {n : Nat} (hc : VSpec t n 4 cmp) (hcb : CmpBad cmp) : VUnit t (n + 1) (unitU t cmp) := by
 intro x i h hb h8 h9 hf
 obtain ⟨m1, m2, m3, m4⟩ := minus_at (t.length + 1) x.1 i h hb
 obtain ⟨j, P, b1, b2, b3, b4, b5⟩ := plain_v hc hcb ((minusF t (t.length + 1) x.1).1, x.2) _ m1 m2 (by simp only; rw [m4]; exact h8) (by simp only; rw [m4]; exact h9) hf
 refine ⟨j, P ++ negs (minusF t (t.length + 1) x.1).2, b1, ?_, Ev.negs _ i b3 m3, b4.trans m4, b5.negs _⟩
 show (plainU t cmp ((minusF t (t.length + 1) x.1).1, x.2)).2 ++ _ = _
 rw [b2]
 simp
def VOp (t : List UInt8) (q : Nat) (opf : Rd → Rd × Int) : Prop := ∀ (r : Rd) (i : Nat), AtI t r i → r.bad = false →
 ((opf r).2 = 0 ∧ (opf r).1 = r) ∨ ∃ c, (keptL t)[i]? = some c ∧ AtI t (opf r).1 (i + 1) ∧ (opf r).1.bad = false ∧ (opf r).2 ≠ 0 ∧ rankB c = q ∧ (c ≠ 40 ∧ c ≠ 41 ∧ endsB c = false) ∧ (∀ x y, opC c x y = opV (opf r).2 x y) ∧ (4 ≤ (opf r).2 ∧ (opf r).2 ≤ 10) ∧ (opf r).1.depth = r.depth
theorem oper_v {t : List UInt8} (q : Nat) (a b : UInt8) (p o : Int) (ha : rankB a = q ∧ (a ≠ 40 ∧ a ≠ 41 ∧ endsB a = false) ∧ (∀ x y, opC a x y = opV p x y) ∧ p ≠ 0 ∧ (4 ≤ p ∧ p ≤ 10)) (hb : rankB b = q ∧ (b ≠ 40 ∧ b ≠ 41 ∧ endsB b = false) ∧ (∀ x y, opC b x y = opV o x y) ∧ o ≠ 0 ∧ (4 ≤ o ∧ o ≤ 10)) : VOp t q (fun r => r.oper t a p b o) := by
 intro r i h hbad
 unfold Rd.oper
 simp only
 cases s1 : r.seesOne t a a
 ·cases s2 : r.seesOne t b b
  ·left
   simp
  ·right
   simp only [Bool.false_eq_true, if_false, if_true]
   obtain ⟨a1, a2, a3, _⟩ := take_at h s2
   exact ⟨b, (sees_one h hbad b).mp s2, a1, a2, hb.2.2.2.1, hb.1, hb.2.1, hb.2.2.1, hb.2.2.2.2, a3⟩
 ·right
  simp only [if_true]
  obtain ⟨a1, a2, a3, _⟩ := take_at h s1
  exact ⟨a, (sees_one h hbad a).mp s1, a1, a2, ha.2.2.2.1, ha.1, ha.2.1, ha.2.2.1, ha.2.2.2.2, a3⟩
theorem op_same (c : UInt8) (op : Int) (h : ∀ x y : Vl, (if c == 43 then vlOf (x.num + y.num) else if c == 45 then vlOf (x.num - y.num) else if c == 42 then vlOf (x.num * y.num)
 else if c == 60 then ⟨if x.num < y.num then 1 else 0, 0⟩ else if c == 61 then ⟨if x.num = y.num then 1 else 0, 0⟩
 else if c == 47 then divV x.num y.num else remV x.num y.num) = numsV op x.num y.num) : ∀ x y, opC c x y = opV op x y := by
 intro x y
 unfold opC opV
 rw [h x y]
theorem sum_v {t : List UInt8} : VOp t 2 (fun r => r.oper t 43 4 45 5) :=
 oper_v 2 43 45 4 5 ⟨by decide, ⟨by decide, by decide, by decide⟩, op_same 43 4 (fun x y => rfl), by decide, by decide, by decide⟩ ⟨by decide, ⟨by decide, by decide, by decide⟩, op_same 45 5 (fun x y => rfl), by decide, by decide, by decide⟩
theorem rel_v {t : List UInt8} : VOp t 3 (fun r => r.oper t 60 9 61 10) :=
 oper_v 3 60 61 9 10 ⟨by decide, ⟨by decide, by decide, by decide⟩, op_same 60 9 (fun x y => rfl), by decide, by decide, by decide⟩ ⟨by decide, ⟨by decide, by decide, by decide⟩, op_same 61 10 (fun x y => rfl), by decide, by decide, by decide⟩
theorem prod_v {t : List UInt8} : VOp t 1 (fun r => r.prodOper t) := by
 intro r i h hbad
 unfold Rd.prodOper
 simp only
 cases s1 : r.seesOne t 37 37
 ·simp only [Bool.false_eq_true, if_false]
  exact oper_v (t := t) 1 42 47 6 7 ⟨by decide, ⟨by decide, by decide, by decide⟩, op_same 42 6 (fun x y => rfl), by decide, by decide, by decide⟩ ⟨by decide, ⟨by decide, by decide, by decide⟩, op_same 47 7 (fun x y => rfl), by decide, by decide, by decide⟩ r i h hbad
 ·right
  simp only [if_true]
  obtain ⟨a1, a2, a3, _⟩ := take_at h s1
  exact ⟨37, (sees_one h hbad 37).mp s1, a1, a2, by decide, by decide, ⟨by decide, by decide, by decide⟩, op_same 37 8 (fun x y => rfl), ⟨by decide, by decide⟩, a3⟩
theorem loopG_bad {opf : Rd → Rd × Int} {F : RP → RP} (hob : ∀ r, r.bad = true → opf r = (r, 0)) : ∀ (k : Nat) (x : RP), x.1.bad = true → loopG opf F k x = x
 | 0, x, _ => rfl
 | k + 1, x, h => by
  unfold loopG
  rw [hob x.1 h]
  simp
theorem loop_v {t : List UInt8} {n q : Nat} (hq0 : 0 < q) {opf : Rd → Rd × Int} {F : RP → RP} (ho : VOp t q opf) (hF : VSpec t n q F) (hFb : CmpBad F) (hob : ∀ r, r.bad = true → opf r = (r, 0)) :
  ∀ (k : Nat) (x : RP) (i m : Nat) (s : Option (Nat × Nat)) (L P : List Pt), AtI t x.1 m → x.1.bad = false → x.1.depth ≤ 8 → 9 ≤ x.1.depth + n → x.2 = L ++ P → Ev (keptL t) i m s P → (∀ y, s = some y → y.2 ≤ q) → Hg (3 * n + (q + 1)) P → (loopG opf F k x).1.bad = false →
   ∃ i' s' P', AtI t (loopG opf F k x).1 i' ∧ (loopG opf F k x).2 = L ++ P' ∧ Ev (keptL t) i i' s' P' ∧ (∀ y, s' = some y → y.2 ≤ q) ∧ (loopG opf F k x).1.depth = x.1.depth ∧ Hg (3 * n + (q + 1)) P'
 | 0, x, i, m, s, L, P, h, hb, h8, h9, hx, he, hs, hg, hf => ⟨m, s, P, h, hx, he, hs, rfl, hg⟩
 | k + 1, x, i, m, s, L, P, h, hb, h8, h9, hx, he, hs, hg, hf => by
  unfold loopG at hf ⊢
  rcases ho x.1 m h hb with ⟨e0, e1⟩ | ⟨c, hc, a1, a2, a3, a4, a5, a6, a7, a8⟩
  ·rw [if_pos e0] at hf ⊢
   refine ⟨m, s, P, ?_, hx, he, hs, by simp only; rw [e1], hg⟩
   simp only
   rw [e1]
   exact h
  ·rw [if_neg a3] at hf ⊢
   have hFf : (F ((opf x.1).1, x.2)).1.bad = false := by
    cases hv : (F ((opf x.1).1, x.2)).1.bad
    ·rfl
    ·exfalso
     have hlb := loopG_bad (F := F) hob k ((F ((opf x.1).1, x.2)).1, (F ((opf x.1).1, x.2)).2 ++ [⟨(opf x.1).2, 0⟩]) hv
     rw [hlb] at hf
     simp only at hf
     rw [hv] at hf
     cases hf
   obtain ⟨j, u, Q, b1, b2, b3, b4, b5, b6⟩ := hF ((opf x.1).1, x.2) (m + 1) a1 a2 (by simp only; rw [a8]; exact h8) (by simp only; rw [a8]; exact h9) hFf
   have hbin := Ev.bin he b3 hc a4 hq0 hs b4 a5 a6 ⟨by omega, by omega, by omega⟩
   have hd2 : (F ((opf x.1).1, x.2)).1.depth = x.1.depth := b5.trans a8
   obtain ⟨i', s', P', c1, c2, c3, c4, c5, c6⟩ := loop_v hq0 ho hF hFb hob k ((F ((opf x.1).1, x.2)).1, (F ((opf x.1).1, x.2)).2 ++ [⟨(opf x.1).2, 0⟩]) i j (some (m, q)) L (P ++ Q ++ [⟨(opf x.1).2, 0⟩]) b1 hFf (by simp only; rw [hd2]; exact h8) (by simp only; rw [hd2]; exact h9) (by simp only; rw [b2]; simp only; rw [hx]; simp) hbin (fun y hy => by cases hy; exact Nat.le_refl _) (hg.bin b6 (by omega) a7) hf
   exact ⟨i', s', P', c1, c2, c3, c4, c5.trans hd2, c6⟩
theorem unit_spec_v {t : List UInt8} {n : Nat} {F : RP → RP} (h : VUnit t n F) : VSpec t n 1 F := by
 intro x i h1 h2 h8 h9 h3
 obtain ⟨j, P, a, b, c, d, e⟩ := h x i h1 h2 h8 h9 h3
 exact ⟨j, none, P, a, b, c, fun y hy => (by cases hy), d, e⟩
theorem prodU_v {t : List UInt8} {cmp : RP → RP} {n : Nat} (hc : VSpec t n 4 cmp) (hcb : CmpBad cmp) : VSpec t (n + 1) 2 (prodU t cmp) := by
 intro x i h hb h8 h9 hf
 unfold prodU at hf ⊢
 rw [prodL_loop] at hf ⊢
 have huf : (unitU t cmp x).1.bad = false := by
  cases hv : (unitU t cmp x).1.bad
  ·rfl
  ·rw [loopG_bad (fun r h => prodOper_bad h) _ _ hv, hv] at hf
   cases hf
 obtain ⟨m, P, a1, a2, a3, a4, a5⟩ := unit_v hc hcb x i h hb h8 h9 huf
 obtain ⟨j, s, P', b1, b2, b3, b4, b5, b6⟩ := loop_v (q := 1) (by decide) prod_v (unit_spec_v (unit_v hc hcb)) unit_bad_in (fun r h => prodOper_bad h) (t.length + 1) (unitU t cmp x) i m none x.2 P a1 huf (by rw [a4]; exact h8) (by rw [a4]; exact h9) a2 a3 (fun y hy => by cases hy) (a5.mono (by omega)) hf
 exact ⟨j, s, P', b1, b2, b3, fun y hy => (by have := b4 y hy; omega), b5.trans a4, b6⟩
theorem sumU_v {t : List UInt8} {cmp : RP → RP} {n : Nat} (hc : VSpec t n 4 cmp) (hcb : CmpBad cmp) : VSpec t (n + 1) 3 (sumU t cmp) := by
 intro x i h hb h8 h9 hf
 unfold sumU at hf ⊢
 rw [sumL_loop] at hf ⊢
 have huf : (prodU t cmp x).1.bad = false := by
  cases hv : (prodU t cmp x).1.bad
  ·rfl
  ·rw [loopG_bad (fun r h => oper_bad h 43 45 4 5) _ _ hv, hv] at hf
   cases hf
 obtain ⟨m, s, P, a1, a2, a3, a4, a5, a6⟩ := prodU_v hc hcb x i h hb h8 h9 huf
 obtain ⟨j, s', P', b1, b2, b3, b4, b5, b6⟩ := loop_v (q := 2) (by decide) sum_v (prodU_v hc hcb) (fun x h => prodU_bad h) (fun r h => oper_bad h 43 45 4 5) (t.length + 1) (prodU t cmp x) i m s x.2 P a1 huf (by rw [a5]; exact h8) (by rw [a5]; exact h9) a2 a3 (fun y hy => by have := a4 y hy; omega) (a6.mono (by omega)) hf
 exact ⟨j, s', P', b1, b2, b3, fun y hy => (by have := b4 y hy; omega), b5.trans a5, b6⟩
theorem cmpU_v {t : List UInt8} {cmp : RP → RP} {n : Nat} (hc : VSpec t n 4 cmp) (hcb : CmpBad cmp) : VSpec t (n + 1) 4 (cmpU t cmp) := by
 intro x i h hb h8 h9 hf
 unfold cmpU at hf ⊢
 simp only at hf ⊢
 have huf : (sumU t cmp x).1.bad = false := by
  cases hv : (sumU t cmp x).1.bad
  ·rfl
  ·rw [oper_bad hv 60 61 9 10] at hf
   simp [hv] at hf
 obtain ⟨m, s, P, a1, a2, a3, a4, a5, a6⟩ := sumU_v hc hcb x i h hb h8 h9 huf
 rcases rel_v (sumU t cmp x).1 m a1 huf with ⟨e0, e1⟩ | ⟨c, hcc, k1, k2, k3, k4, k5, k6, k7, k8⟩
 ·simp only at e0 e1
  rw [if_pos e0] at hf ⊢
  refine ⟨m, s, P, ?_, a2, a3, fun y hy => (by have := a4 y hy; omega), by simp only; rw [e1]; exact a5, a6.mono (by omega)⟩
  simp only
  rw [e1]
  exact a1
 ·simp only at k1 k2 k3 k6 k7 k8
  rw [if_neg k3] at hf ⊢
  obtain ⟨j, u, Q, b1, b2, b3, b4, b5, b6⟩ := sumU_v hc hcb (((sumU t cmp x).1.oper t 60 9 61 10).1, (sumU t cmp x).2) (m + 1) k1 k2 (by simp only; rw [k8, a5]; exact h8) (by simp only; rw [k8, a5]; exact h9) hf
  refine ⟨j, some (m, 3), P ++ Q ++ [⟨((sumU t cmp x).1.oper t 60 9 61 10).2, 0⟩], b1, ?_, Ev.bin a3 b3 hcc k4 (by decide) (fun y hy => by have := a4 y hy; omega) b4 k5 k6 ⟨by omega, by omega, by omega⟩, fun y hy => (by cases hy; omega), b5.trans (k8.trans a5), (a6.mono (by omega)).bin b6 (by omega) k7⟩
  simp only
  rw [b2]
  simp only
  rw [a2]
  simp
theorem cmpF_v (t : List UInt8) : ∀ n, VSpec t n 4 (cmpF t n)
 | 0 => fun x i h hb h8 h9 hf => by simp at h9; omega
 | n + 1 => cmpU_v (cmpF_v t n) (cmpF_bad t n)
def EvH (C : List UInt8) (i j : Nat) (s : Option (Nat × Nat)) (P : List Pt) : Prop := Ev C i j s P ∧ Hg 34 P
theorem exprU_v {t : List UInt8} {r : Rd} {i : Nat} (h : AtI t r i) (hb : r.bad = false) (h0 : 0 ≤ r.depth) (h8 : r.depth ≤ 8) (hf : (exprU t r).1.bad = false) :
  ∃ i' s, AtI t (exprU t r).1 i' ∧ EvH (keptL t) i i' s (exprU t r).2 := by
 obtain ⟨i', s, P, a, b, c, _, _, d⟩ := cmpF_v t 10 (r, []) i h hb h8 (by simp only; omega) hf
 refine ⟨i', s, a, ?_⟩
 have e : (exprU t r).2 = P := by unfold exprU; rw [b]; rfl
 rw [e]
 exact ⟨c, d⟩
end Go.Proofs.YtdgmoiflahoihaaGreatDoor
