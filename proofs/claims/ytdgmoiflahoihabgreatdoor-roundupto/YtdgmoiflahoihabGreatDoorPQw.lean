import Derived.Test.YtdgmoiflahoihabGreatDoorRParsew

namespace Go.Proofs.YtdgmoiflahoihabGreatDoor
set_option linter.unusedSimpArgs false
set_option linter.unusedVariables false
def NoQ (t : List UInt8) (i j : Nat) : Prop := i ≤ j ∧ ∀ k, i ≤ k → k < j → ∀ c, t[k]? = some c → c ≠ 63 ∧ c ≠ 33
theorem NoQ.refl (t : List UInt8) (i : Nat) : NoQ t i i := ⟨Nat.le_refl _, fun k h1 h2 => absurd h2 (by omega)⟩
theorem NoQ.trans {t : List UInt8} {i j k : Nat} (h : NoQ t i j) (g : NoQ t j k) : NoQ t i k :=
 ⟨Nat.le_trans h.1 g.1, fun m h1 h2 c hc => by
  rcases Nat.lt_or_ge m j with h3 | h3
  ·exact h.2 m h1 h3 c hc
  ·exact g.2 m h3 h2 c hc⟩
theorem skipL_noq : ∀ (l t : List UInt8) (k : Nat), t.drop k = l → NoQ t k (skipL l k)
 | [], t, k, _ => NoQ.refl t k
 | c :: r, t, k, h => by
  unfold skipL
  split
  ·rename_i hb
   have hk : k < t.length := by
    apply Decidable.byContradiction
    intro hc
    rw [List.drop_of_length_le (by omega)] at h
    cases h
   have e := List.drop_eq_getElem_cons hk
   rw [h] at e
   simp only [List.cons.injEq] at e
   have ih := skipL_noq r t (k + 1) e.2.symm
   refine ⟨by have := ih.1; omega, fun m h1 h2 d hd => ?_⟩
   rcases Nat.lt_or_ge k m with h3 | h3
   ·exact ih.2 m (by omega) h2 d hd
   ·have hm : m = k := by omega
    subst hm
    rw [List.getElem?_eq_getElem hk, ← e.1] at hd
    cases hd
    constructor
    ·rintro rfl; revert hb; decide
    ·rintro rfl; revert hb; decide
  ·exact NoQ.refl t k
def RngOk (a b : UInt8) : Prop := ∀ c : UInt8, a ≤ c → c ≤ b → c ≠ 63 ∧ c ≠ 33
theorem rng_one {a : UInt8} (h1 : a ≠ 63) (h2 : a ≠ 33) : RngOk a a := fun c g1 g2 => by
 have : c = a := UInt8.le_antisymm g2 g1
 rw [this]
 exact ⟨h1, h2⟩
theorem takeOne_noq {t : List UInt8} {r : Rd} {a b : UInt8} (hr : RngOk a b) : NoQ t r.pos (r.takeOne t a b).1.pos := by
 unfold Rd.takeOne
 split
 ·rename_i h
  have h1 : NoQ t r.pos (r.pos + 1) := by
   refine ⟨by omega, fun m g1 g2 c hc => ?_⟩
   have hm : m = r.pos := by omega
   subst hm
   unfold Rd.seesOne at h
   rw [hc] at h
   simp at h
   exact hr c h.2.1 h.2.2
  exact h1.trans (skipL_noq _ t (r.pos + 1) rfl)
 ·exact NoQ.refl t _
theorem rng_digit : RngOk 48 57 := fun c g1 g2 => ⟨by rintro rfl; revert g2; decide, by rintro rfl; revert g1; decide⟩
theorem rng_nine : RngOk 49 57 := fun c g1 g2 => ⟨by rintro rfl; revert g2; decide, by rintro rfl; revert g1; decide⟩
theorem rng_name : RngOk 97 122 := fun c g1 g2 => ⟨by rintro rfl; revert g1; decide, by rintro rfl; revert g1; decide⟩
theorem numF_noq {t : List UInt8} : ∀ (n : Nat) (r : Rd) (v : Int), NoQ t r.pos (Rd.numF t n r v).1.pos
 | 0, r, v => NoQ.refl t _
 | n + 1, r, v => by
  unfold Rd.numF
  split
  ·exact (takeOne_noq rng_digit).trans (numF_noq n _ _)
  ·exact NoQ.refl t _
theorem number_noq {t : List UInt8} {r : Rd} : NoQ t r.pos (r.number t).1.pos := (takeOne_noq rng_digit).trans (numF_noq 17 _ _)
theorem minusF_noq {t : List UInt8} : ∀ (n : Nat) (r : Rd), NoQ t r.pos (minusF t n r).1.pos
 | 0, r => NoQ.refl t _
 | n + 1, r => by
  unfold minusF
  split
  ·exact (takeOne_noq (rng_one (by decide) (by decide))).trans (minusF_noq n _)
  ·exact NoQ.refl t _
theorem oper_noq {t : List UInt8} {r : Rd} {a b : UInt8} {p q : Int} (ha : RngOk a a) (hb : RngOk b b) : NoQ t r.pos (r.oper t a p b q).1.pos := by
 unfold Rd.oper
 split
 ·exact takeOne_noq ha
 split
 ·exact takeOne_noq hb
 ·exact NoQ.refl t _
theorem prodOper_noq {t : List UInt8} {r : Rd} : NoQ t r.pos (r.prodOper t).1.pos := by
 unfold Rd.prodOper
 split
 ·exact takeOne_noq (rng_one (by decide) (by decide))
 ·exact oper_noq (rng_one (by decide) (by decide)) (rng_one (by decide) (by decide))
theorem opening_noq {t : List UInt8} {r : Rd} {c : UInt8} (h : RngOk c c) : NoQ t r.pos (r.opening t c).pos := by
 have := takeOne_noq (t := t) (r := r.room) h
 rw [room_pos] at this
 exact this
theorem closing_noq {t : List UInt8} {r : Rd} {c : UInt8} (h : RngOk c c) : NoQ t r.pos (r.closing t c).pos := takeOne_noq (t := t) (r := r) h
theorem labF_noq {t : List UInt8} : ∀ (n : Nat) (r : Rd) (l : Nat), n ≤ 4 → NoQ t r.pos (Rd.labF t n r l).1.pos
 | 0, r, l, _ => NoQ.refl t _
 | n + 1, r, l, hn => by
  unfold Rd.labF
  have hr : RngOk (UInt8.ofNat (68 - n)) (UInt8.ofNat (68 - n)) := by
   have : n = 0 ∨ n = 1 ∨ n = 2 ∨ n = 3 := by omega
   rcases this with rfl | rfl | rfl | rfl <;> exact rng_one (by decide) (by decide)
  split
  ·exact (takeOne_noq hr).trans (labF_noq n _ _ (by omega))
  ·exact labF_noq n _ _ (by omega)
theorem label_noq {t : List UInt8} {r : Rd} : NoQ t r.pos (r.label t).1.pos := by
 unfold Rd.label
 split
 ·exact takeOne_noq (rng_one (by decide) (by decide))
 split
 ·exact labF_noq 4 r 0 (by omega)
 ·exact labF_noq 4 r 0 (by omega)
def CmpNoQ (t : List UInt8) (cmp : RP → RP) : Prop := ∀ x, NoQ t x.1.pos (cmp x).1.pos
theorem plainU_noq {t : List UInt8} {cmp : RP → RP} (hc : CmpNoQ t cmp) : CmpNoQ t (plainU t cmp) := by
 intro x
 unfold plainU
 split
 ·exact number_noq
 split
 ·exact takeOne_noq rng_name
 split
 ·exact ((opening_noq (rng_one (by decide) (by decide))).trans (hc (x.1.opening t 40, x.2))).trans (closing_noq (rng_one (by decide) (by decide)))
 ·exact NoQ.refl t _
theorem unitU_noq {t : List UInt8} {cmp : RP → RP} (hc : CmpNoQ t cmp) : CmpNoQ t (unitU t cmp) := fun x =>
 (minusF_noq (t.length + 1) x.1).trans (plainU_noq hc ((minusF t (t.length + 1) x.1).1, x.2))
theorem prodL_noq {t : List UInt8} {cmp : RP → RP} (hc : CmpNoQ t cmp) : ∀ k, CmpNoQ t (prodL t cmp k)
 | 0 => fun x => NoQ.refl t _
 | k + 1 => fun x => by
  unfold prodL
  simp only
  split
  ·exact prodOper_noq
  ·exact (prodOper_noq.trans (unitU_noq hc ((x.1.prodOper t).1, x.2))).trans (prodL_noq hc k ((unitU t cmp ((x.1.prodOper t).1, x.2)).1, (unitU t cmp ((x.1.prodOper t).1, x.2)).2 ++ [⟨(x.1.prodOper t).2, 0⟩]))
theorem prodU_noq {t : List UInt8} {cmp : RP → RP} (hc : CmpNoQ t cmp) : CmpNoQ t (prodU t cmp) := fun x => (unitU_noq hc x).trans (prodL_noq hc _ _)
theorem sumL_noq {t : List UInt8} {cmp : RP → RP} (hc : CmpNoQ t cmp) : ∀ k, CmpNoQ t (sumL t cmp k)
 | 0 => fun x => NoQ.refl t _
 | k + 1 => fun x => by
  unfold sumL
  simp only
  have ho : NoQ t x.1.pos (x.1.oper t 43 4 45 5).1.pos := oper_noq (rng_one (by decide) (by decide)) (rng_one (by decide) (by decide))
  split
  ·exact ho
  ·exact (ho.trans (prodU_noq hc ((x.1.oper t 43 4 45 5).1, x.2))).trans (sumL_noq hc k ((prodU t cmp ((x.1.oper t 43 4 45 5).1, x.2)).1, (prodU t cmp ((x.1.oper t 43 4 45 5).1, x.2)).2 ++ [⟨(x.1.oper t 43 4 45 5).2, 0⟩]))
theorem sumU_noq {t : List UInt8} {cmp : RP → RP} (hc : CmpNoQ t cmp) : CmpNoQ t (sumU t cmp) := fun x => (prodU_noq hc x).trans (sumL_noq hc _ _)
theorem cmpU_noq {t : List UInt8} {cmp : RP → RP} (hc : CmpNoQ t cmp) : CmpNoQ t (cmpU t cmp) := fun x => by
 unfold cmpU
 simp only
 have ho : NoQ t (sumU t cmp x).1.pos ((sumU t cmp x).1.oper t 60 9 61 10).1.pos := oper_noq (rng_one (by decide) (by decide)) (rng_one (by decide) (by decide))
 split
 ·exact (sumU_noq hc x).trans ho
 ·exact ((sumU_noq hc x).trans ho).trans (sumU_noq hc (((sumU t cmp x).1.oper t 60 9 61 10).1, (sumU t cmp x).2))
theorem cmpF_noq (t : List UInt8) : ∀ n, CmpNoQ t (cmpF t n)
 | 0 => fun x => NoQ.refl t _
 | n + 1 => cmpU_noq (cmpF_noq t n)
theorem exprU_noq {t : List UInt8} {r : Rd} : NoQ t r.pos (exprU t r).1.pos := cmpF_noq t 10 (r, [])
theorem ruleU_noq {α : Type} {t : List UInt8} {blk : Rd → Rd × List α} (hb : ∀ r, NoQ t r.pos (blk r).1.pos) (r : Rd) : NoQ t r.pos (ruleU t blk r).1.pos := by
 have one : ∀ {r : Rd} {c : UInt8}, c ≠ 63 → c ≠ 33 → NoQ t r.pos (r.takeOne t c c).1.pos := fun h1 h2 => takeOne_noq (rng_one h1 h2)
 unfold ruleU
 split
 ·exact (((takeOne_noq rng_name).trans (one (by decide) (by decide))).trans exprU_noq).trans (one (by decide) (by decide))
 split
 ·exact ((((((one (by decide) (by decide)).trans (takeOne_noq rng_name)).trans (one (by decide) (by decide))).trans label_noq).trans (one (by decide) (by decide))).trans exprU_noq).trans (one (by decide) (by decide))
 split
 ·exact (((one (by decide) (by decide)).trans label_noq).trans exprU_noq).trans (one (by decide) (by decide))
 split
 ·have h1 : NoQ t r.pos (blk ((exprU t (r.opening t 40)).1.closing t 41)).1.pos := (((opening_noq (rng_one (by decide) (by decide))).trans exprU_noq).trans (closing_noq (rng_one (by decide) (by decide)))).trans (hb _)
  simp only
  split
  ·exact h1.trans (hb _)
  ·exact h1
 split
 ·have h1 := one (r := r.room) (c := 42) (by decide) (by decide)
  rw [room_pos] at h1
  exact (h1.trans (takeOne_noq rng_nine)).trans (hb _)
 ·exact NoQ.refl t _
theorem rulesL_noq {α : Type} {t : List UInt8} {rule : Rd → Rd × α} {halt : Rd → Bool} (hr : ∀ r, NoQ t r.pos (rule r).1.pos) : ∀ (k : Nat) (r : Rd), NoQ t r.pos (rulesL rule halt k r).1.pos
 | 0, r => NoQ.refl t _
 | k + 1, r => by
  unfold rulesL
  split
  ·exact NoQ.refl t _
  ·exact (hr r).trans (rulesL_noq hr k _)
theorem blockF_noq (t : List UInt8) : ∀ (n : Nat) (r : Rd), NoQ t r.pos (blockF t n r).1.pos
 | 0, r => (opening_noq (rng_one (by decide) (by decide))).trans (closing_noq (rng_one (by decide) (by decide)))
 | n + 1, r => ((opening_noq (rng_one (by decide) (by decide))).trans (rulesL_noq (fun r => ruleU_noq (blockF_noq t n) r) _ _)).trans (closing_noq (rng_one (by decide) (by decide)))
theorem rulesL_end {α : Type} {t : List UInt8} {rule : Rd → Rd × α} {halt : Rd → Bool} (hr : ∀ r, FitB t r → Stp t r (rule r).1 ∧ ((rule r).1.bad = true ∨ r.pos < (rule r).1.pos)) : ∀ (k : Nat) (r : Rd), FitB t r → t.length - r.pos < k → (rulesL rule halt k r).1.bad = true ∨ halt (rulesL rule halt k r).1 = true
 | 0, r, _, h => absurd h (by omega)
 | k + 1, r, f, h => by
  unfold rulesL
  split
  ·rename_i hh
   simp only [Bool.or_eq_true] at hh
   exact hh
  ·obtain ⟨h1, h2⟩ := hr r f
   rcases h2 with h2 | h2
   ·rw [rulesL_bad h2]
    exact .inl h2
   ·exact rulesL_end hr k _ (h1.fitB f) (by have := h1.le; omega)
theorem parseR_pos {t : List UInt8} (h : (parseR t).1.bad = false) : t.length ≤ (parseR t).1.pos := by
 obtain ⟨hp, hd⟩ := parseH_facts t
 have k := rulesL_end (t := t) (rule := fun r => ruleF t 8 r) (halt := fun r => decide (t.length ≤ r.pos)) (fun r f => ruleF_stp t 8 f) (t.length + 1) (parseH t).1 ⟨hp, by rw [hd]; decide, by rw [hd]; decide⟩ (by omega)
 rcases k with k | k
 ·have : (parseR t).1.bad = true := k
  rw [h] at this
  cases this
 ·exact of_decide_eq_true k
def hdsL (sg : UInt8) : List UInt8 → List Int
 | [] => []
 | c :: r => if c = sg then (match (r.dropWhile blankB).head? with | some d => ((d.toNat : Int) - 97) :: hdsL sg r | none => hdsL sg r) else hdsL sg r
theorem hdsL_noq {t : List UInt8} {sg : UInt8} (hs : sg = 63 ∨ sg = 33) : ∀ (n i j : Nat), j = i + n → NoQ t i j → hdsL sg (t.drop i) = hdsL sg (t.drop j)
 | 0, i, j, e, _ => by rw [e]; rfl
 | n + 1, i, j, e, h => by
  by_cases hi : i < t.length
  ·have h1 := h.2 i (Nat.le_refl _) (by omega) t[i] (List.getElem?_eq_getElem hi)
   rw [List.drop_eq_getElem_cons hi]
   have hne : t[i] ≠ sg := by rcases hs with rfl | rfl; exact h1.1; exact h1.2
   show (if t[i] = sg then _ else hdsL sg (t.drop (i + 1))) = _
   rw [if_neg hne]
   exact hdsL_noq hs n (i + 1) j (by omega) ⟨by omega, fun m g1 g2 => h.2 m (by omega) g2⟩
  ·rw [List.drop_of_length_le (by omega), List.drop_of_length_le (by omega)]
theorem head_of_skip : ∀ (l t : List UInt8) (k : Nat), t.drop k = l → (l.dropWhile blankB).head? = t[skipL l k]?
 | [], t, k, h => by
  have : t.length ≤ k := by
   apply Decidable.byContradiction
   intro hc
   rw [List.drop_eq_getElem_cons (by omega)] at h
   cases h
  simp [skipL, List.getElem?_eq_none this]
 | c :: r, t, k, h => by
  have hk : k < t.length := by
   apply Decidable.byContradiction
   intro hc
   rw [List.drop_of_length_le (by omega)] at h
   cases h
  have e := List.drop_eq_getElem_cons hk
  rw [h] at e
  simp only [List.cons.injEq] at e
  unfold skipL
  split
  ·rename_i hb
   rw [List.dropWhile_cons_of_pos (by simpa using hb)]
   exact head_of_skip r t (k + 1) e.2.symm
  ·rename_i hb
   rw [List.dropWhile_cons_of_neg (by simpa using hb)]
   simp [List.getElem?_eq_getElem hk, e.1]
theorem head_names {t : List UInt8} {r : Rd} (hp : r.pos ≤ t.length) (hs : (r.seesOne t 63 63 || r.seesOne t 33 33) = true) (hb : (headU t r).1.bad = false) :
  (hdsL 63 (t.drop r.pos) = (if (headU t r).2.field then [(headU t r).2.name] else []) ++ hdsL 63 (t.drop (headU t r).1.pos)) ∧
  (hdsL 33 (t.drop r.pos) = (if (headU t r).2.field then [] else [(headU t r).2.name]) ++ hdsL 33 (t.drop (headU t r).1.pos)) := by
 have one : ∀ {r : Rd} {c : UInt8}, c ≠ 63 → c ≠ 33 → NoQ t r.pos (r.takeOne t c c).1.pos := fun h1 h2 => takeOne_noq (rng_one h1 h2)
 -- the sign
 obtain ⟨sg, hsg, hO, hfd⟩ : ∃ sg : UInt8, r.seesOne t sg sg = true ∧ headO t r = (r.takeOne t sg sg).1 ∧ ((sg = 63 ∧ r.seesOne t 63 63 = true) ∨ (sg = 33 ∧ r.seesOne t 63 63 = false)) := by
  unfold headO
  cases h63 : r.seesOne t 63 63
  ·rw [h63] at hs
   simp at hs
   exact ⟨33, hs, by simp, .inr ⟨rfl, rfl⟩⟩
  ·exact ⟨63, h63, by simp, .inl ⟨rfl, rfl⟩⟩
 have hlt := (sees_lt hsg).1
 have hti : t[r.pos] = sg := by
  unfold Rd.seesOne at hsg
  rw [List.getElem?_eq_getElem hlt] at hsg
  simp at hsg
  exact UInt8.le_antisymm hsg.2.2 hsg.2.1
 -- behind the sign
 have hOp : (headO t r).pos = skipL (t.drop (r.pos + 1)) (r.pos + 1) := by
  rw [hO]
  unfold Rd.takeOne
  rw [if_pos hsg]
  rfl
 have hOle : (headO t r).pos ≤ t.length := (headO_stp hp).le
 -- the name is there
 have hnm : (headO t r).seesOne t 97 122 = true := by
  cases hn : (headO t r).seesOne t 97 122
  ·exfalso
   have hx : ((headO t r).takeOne t 97 122).1.bad = true := by unfold Rd.takeOne; rw [hn]; rfl
   have a1 := takeOne_stp 97 122 hOle
   have a2 := takeOne_stp 58 58 a1.le
   have a3 := label_stp a2.le
   have a4 := takeOne_stp 59 59 a3.le
   have : (headU t r).1.bad = true := ((a2.trans a3).trans a4).bad hx
   rw [hb] at this
   cases this
  ·rfl
 have hnl := (sees_lt hnm).1
 have hname : (headU t r).2.name = ((t[(headO t r).pos].toNat : Int) - 97) := by
  show ((headO t r).takeOne t 97 122).2 = _
  unfold Rd.takeOne
  rw [if_pos hnm]
  simp [List.getD_eq_getElem?_getD, List.getElem?_eq_getElem hnl]
 have hfield : (headU t r).2.field = r.seesOne t 63 63 := rfl
 have hfirst : ((t.drop (r.pos + 1)).dropWhile blankB).head? = some t[(headO t r).pos] := by
  rw [head_of_skip _ t (r.pos + 1) rfl, ← hOp, List.getElem?_eq_getElem hnl]
 have hrest : NoQ t (r.pos + 1) (headU t r).1.pos := by
  have h1 : NoQ t (r.pos + 1) (headO t r).pos := by rw [hOp]; exact skipL_noq _ t _ rfl
  exact ((((h1.trans (takeOne_noq rng_name)).trans (one (by decide) (by decide))).trans label_noq).trans (one (by decide) (by decide)))
 have e63 := hdsL_noq (sg := 63) (.inl rfl) ((headU t r).1.pos - (r.pos + 1)) (r.pos + 1) _ (by have := hrest.1; omega) hrest
 have e33 := hdsL_noq (sg := 33) (.inr rfl) ((headU t r).1.pos - (r.pos + 1)) (r.pos + 1) _ (by have := hrest.1; omega) hrest
 rw [List.drop_eq_getElem_cons hlt, hti, hfield, hname]
 rcases hfd with ⟨rfl, hf⟩ | ⟨rfl, hf⟩
 ·rw [hf]
  constructor
  ·show (if (63 : UInt8) = 63 then (match ((t.drop (r.pos + 1)).dropWhile blankB).head? with | some d => ((d.toNat : Int) - 97) :: hdsL 63 (t.drop (r.pos + 1)) | none => hdsL 63 (t.drop (r.pos + 1))) else _) = _
   rw [if_pos rfl, hfirst, e63]
   rfl
  ·show (if (63 : UInt8) = 33 then _ else hdsL 33 (t.drop (r.pos + 1))) = _
   rw [if_neg (by decide), e33]
   rfl
 ·rw [hf]
  constructor
  ·show (if (33 : UInt8) = 63 then _ else hdsL 63 (t.drop (r.pos + 1))) = _
   rw [if_neg (by decide), e63]
   rfl
  ·show (if (33 : UInt8) = 33 then (match ((t.drop (r.pos + 1)).dropWhile blankB).head? with | some d => ((d.toNat : Int) - 97) :: hdsL 33 (t.drop (r.pos + 1)) | none => hdsL 33 (t.drop (r.pos + 1))) else _) = _
   rw [if_pos rfl, hfirst, e33]
   rfl
theorem headsL_bad {t : List UInt8} {k : Nat} {r : Rd} (h : r.bad = true) : headsL t k r = (r, []) := by
 cases k with
 | zero => rfl
 | succ k => unfold headsL; rw [bad_sees h, bad_sees h]; rfl
theorem heads_names {t : List UInt8} : ∀ (k : Nat) (r : Rd), r.pos ≤ t.length → (headsL t k r).1.bad = false →
  hdsL 63 (t.drop r.pos) = ((headsL t k r).2.filter (·.field)).map (·.name) ++ hdsL 63 (t.drop (headsL t k r).1.pos) ∧
  hdsL 33 (t.drop r.pos) = ((headsL t k r).2.filter (fun h => !h.field)).map (·.name) ++ hdsL 33 (t.drop (headsL t k r).1.pos)
 | 0, r, _, _ => ⟨rfl, rfl⟩
 | k + 1, r, hp, hb => by
  unfold headsL at hb ⊢
  split
  ·rename_i hs
   rw [if_pos hs] at hb
   simp only at hb
   have hub : (headU t r).1.bad = false := by
    cases hx : (headU t r).1.bad
    ·rfl
    ·rw [headsL_bad hx] at hb
     simp only at hb
     rw [hx] at hb
     cases hb
   obtain ⟨a1, a2⟩ := head_names hp hs hub
   obtain ⟨b1, b2⟩ := heads_names k (headU t r).1 (headU_stp hp).le hb
   rw [a1, a2, b1, b2]
   cases hf : (headU t r).2.field <;> simp [hf]
  ·exact ⟨rfl, rfl⟩
theorem hds_eq {t : List UInt8} (h : (parseR t).1.bad = false) :
  hdsL 63 t = ((parseH t).2.filter (·.field)).map (·.name) ∧ hdsL 33 t = ((parseH t).2.filter (fun h => !h.field)).map (·.name) := by
 have hp : (Rd.skip t Rd.first).pos ≤ t.length := skip_le (t := t) (k := 0) (Nat.zero_le _)
 have hpb : (parseH t).1.bad = false := by
  cases hx : (parseH t).1.bad
  ·rfl
  ·have : (parseR t).1.bad = true := by
    unfold parseR
    rw [rulesL_bad hx]
    exact hx
   rw [h] at this
   cases this
 have h0 : NoQ t 0 (Rd.skip t Rd.first).pos := skipL_noq _ t 0 rfl
 obtain ⟨a1, a2⟩ := heads_names (t.length + 1) (Rd.skip t Rd.first) hp hpb
 have hr : NoQ t (parseH t).1.pos (parseR t).1.pos := rulesL_noq (fun r => ruleU_noq (blockF_noq t 8) r) _ _
 have hend := parseR_pos h
 have z : ∀ sg, hdsL sg (t.drop (parseR t).1.pos) = [] := fun sg => by rw [List.drop_of_length_le hend]; rfl
 have e : ∀ sg : UInt8, (sg = 63 ∨ sg = 33) → hdsL sg (t.drop (parseH t).1.pos) = [] := fun sg hs => by
  rw [hdsL_noq hs ((parseR t).1.pos - (parseH t).1.pos) _ _ (by have := hr.1; omega) hr]
  exact z sg
 have f : ∀ sg : UInt8, (sg = 63 ∨ sg = 33) → hdsL sg t = hdsL sg (t.drop (Rd.skip t Rd.first).pos) := fun sg hs => by
  have := hdsL_noq hs (Rd.skip t Rd.first).pos 0 _ (by omega) h0
  simpa using this
 rw [f 63 (.inl rfl), f 33 (.inr rfl), a1, a2]
 have e63 := e 63 (.inl rfl)
 have e33 := e 33 (.inr rfl)
 unfold parseH at e63 e33 ⊢
 rw [e63, e33]
 simp
end Go.Proofs.YtdgmoiflahoihabGreatDoor
