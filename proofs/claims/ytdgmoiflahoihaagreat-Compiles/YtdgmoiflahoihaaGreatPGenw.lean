import Derived.Test.YtdgmoiflahoihaaGreatXPw
import Derived.Test.YtdgmoiflahoihaaGreatRTakew
import Derived.Test.YtdgmoiflahoihaaGreatPFlw
import Derived.Test.YtdgmoiflahoihaaGreatPCheckw

namespace Go.Proofs.YtdgmoiflahoihaaGreat
set_option linter.unusedSimpArgs false
set_option linter.unusedVariables false
def ic0 : Ic := ⟨0, 0, 0, 0⟩
def exprI : List Pt → Int → List Ic
 | [], _ => []
 | p :: r, top =>
  if p.op = 1 ∨ p.op = 2 then ⟨p.op, top, p.num, 0⟩ :: exprI r (top + 1)
  else if p.op = 3 then ⟨3, top - 1, top - 1, 0⟩ :: exprI r top
  else ⟨p.op, top - 1 - 1, top - 1 - 1, top - 1⟩ :: exprI r (top - 1)
def genT {α : Type} (rec : Nat → Nat → List α → List Ic) (p loops : Nat) (q : Core × List α × List α) : List Ic :=
 if q.1.kind = 0 then exprI q.1.parts 35 ++ [⟨2, q.1.name, 35, 0⟩]
 else if q.1.kind = 1 then exprI q.1.parts 35 ++ [⟨2, q.1.name, 35, 0⟩, ⟨15, q.1.place, q.1.label, 35⟩]
 else if q.1.kind = 2 then exprI q.1.parts 35 ++ [⟨14, q.1.place, q.1.label, 35⟩]
 else if q.1.kind = 3 then
  exprI q.1.parts 35 ++ (⟨13, 35, (p + (exprI q.1.parts 35).length + 1 + (rec (p + (exprI q.1.parts 35).length + 1) loops q.2.1).length + 1 : Nat), (p + (exprI q.1.parts 35).length + 1 + (rec (p + (exprI q.1.parts 35).length + 1) loops q.2.1).length + 1 + (rec (p + (exprI q.1.parts 35).length + 1 + (rec (p + (exprI q.1.parts 35).length + 1) loops q.2.1).length + 1) loops q.2.2).length : Nat)⟩ ::
   (rec (p + (exprI q.1.parts 35).length + 1) loops q.2.1 ++ (⟨12, (p + (exprI q.1.parts 35).length + 1 + (rec (p + (exprI q.1.parts 35).length + 1) loops q.2.1).length + 1 + (rec (p + (exprI q.1.parts 35).length + 1 + (rec (p + (exprI q.1.parts 35).length + 1) loops q.2.1).length + 1) loops q.2.2).length : Nat), 0, 0⟩ ::
    rec (p + (exprI q.1.parts 35).length + 1 + (rec (p + (exprI q.1.parts 35).length + 1) loops q.2.1).length + 1) loops q.2.2)))
 else
  ⟨1, 26, 1, 0⟩ :: ⟨1, (27 + loops : Nat), q.1.count, 0⟩ :: (rec (p + 2) (loops + 1) q.2.1 ++
   [⟨5, (27 + loops : Nat), (27 + loops : Nat), 26⟩, ⟨13, (27 + loops : Nat), (p + 2 + (rec (p + 2) (loops + 1) q.2.1).length + 3 : Nat), (p + 2 + (rec (p + 2) (loops + 1) q.2.1).length + 3 : Nat)⟩, ⟨12, (p + 2 : Nat), 0, 0⟩])
def genL {α : Type} (rec : Nat → Nat → List α → List Ic) : Nat → Nat → List (Core × List α × List α) → List Ic
 | _, _, [] => []
 | p, loops, q :: r => genT rec p loops q ++ genL rec (p + (genT rec p loops q).length) loops r
def genF (n : Nat) : Nat → Nat → List (RT n) → List Ic :=
 match n with
 | 0 => fun _ _ _ => []
 | n + 1 => fun p loops l => genL (genF n) p loops l
def fieldsI : List Hd → Nat → List Ic
 | [], _ => []
 | h :: r, k => if h.field then ⟨11, h.name, k, 0⟩ :: fieldsI r (k + 1) else fieldsI r k
def genP (t : List UInt8) : List Ic := fieldsI (parseH t).2 0 ++ (genF 9 (fieldsI (parseH t).2 0).length 0 (parseR t).2 ++ [⟨0, 0, 0, 0⟩])
def compP (t : List UInt8) : Int × List Ic := if (checkP t).1 ≠ 0 then ((checkP t).1, []) else (0, genP t)
theorem exprI_len : ∀ (P : List Pt) (top : Int), (exprI P top).length = P.length
 | [], _ => rfl
 | p :: r, top => by
  unfold exprI
  split
  ·simp [exprI_len r]
  split <;> simp [exprI_len r]
def AtP (l : List Ic) (p : Nat) (g : List Ic) : Prop := ∀ i, i < g.length → l.getD (p + i) ⟨0, 0, 0, 0⟩ = g.getD i ⟨0, 0, 0, 0⟩
theorem AtP.left {l a b : List Ic} {p : Nat} (h : AtP l p (a ++ b)) : AtP l p a := by
 intro i hi
 rw [h i (by simp; omega)]
 simp [List.getElem?_append_left hi]
theorem AtP.right {l a b : List Ic} {p : Nat} (h : AtP l p (a ++ b)) : AtP l (p + a.length) b := by
 intro i hi
 have := h (a.length + i) (by simp; omega)
 rw [show p + a.length + i = p + (a.length + i) by omega, this]
 simp [List.getElem?_append_right]
theorem AtP.head {l b : List Ic} {x : Ic} {p : Nat} (h : AtP l p (x :: b)) : l.getD p ⟨0, 0, 0, 0⟩ = x := by
 have := h 0 (by simp)
 simpa using this
theorem AtP.tail {l b : List Ic} {x : Ic} {p : Nat} (h : AtP l p (x :: b)) : AtP l (p + 1) b := by
 have := AtP.right (a := [x]) (b := b) (p := p) (l := l) (by simpa using h)
 simpa using this
def stepsX (l : List Ic) (fs : List Int) : Nat → XS → XS → Prop
 | 0, s, s' => s' = s
 | k + 1, s, s' => (l.getD s.pc ⟨0, 0, 0, 0⟩).op ≠ 0 ∧ stepsX l fs k (stepX (l.getD s.pc ⟨0, 0, 0, 0⟩) fs s) s'
theorem steps_exec {l : List Ic} {fs : List Int} : ∀ (k f : Nat) (s s' : XS), stepsX l fs k s s' → execF l fs (k + f) s = execF l fs f s'
 | 0, f, s, s', h => by cases h; rw [Nat.zero_add]
 | k + 1, f, s, s', h => by
  obtain ⟨h0, h1⟩ := h
  rw [show k + 1 + f = (k + f) + 1 by omega]
  conv => lhs; unfold execF
  rw [if_neg h0]
  exact steps_exec k f _ _ h1
theorem steps_trans {l : List Ic} {fs : List Int} : ∀ (k m : Nat) (s s1 s2 : XS), stepsX l fs k s s1 → stepsX l fs m s1 s2 → stepsX l fs (k + m) s s2
 | 0, m, s, s1, s2, h, g => by cases h; rw [Nat.zero_add]; exact g
 | k + 1, m, s, s1, s2, h, g => by
  rw [show k + 1 + m = (k + m) + 1 by omega]
  exact ⟨h.1, steps_trans k m _ _ _ h.2 g⟩
theorem steps_one {l : List Ic} {fs : List Int} {s : XS} {x : Ic} (h : l.getD s.pc ⟨0, 0, 0, 0⟩ = x) (h0 : x.op ≠ 0) : stepsX l fs 1 s (stepX x fs s) := by
 refine ⟨by rw [h]; exact h0, ?_⟩
 rw [h]
 rfl
theorem regs_set {l : List Vl} {i j : Nat} {v : Vl} (hi : i < l.length) : (l.set i v).getD j vl0 = if i = j then v else l.getD j vl0 := by
 rw [List.getD_eq_getElem?_getD, List.getElem?_set, List.getD_eq_getElem?_getD]
 by_cases e : i = j
 ·subst e
  simp [hi]
 ·simp [e]
def PileR (regs : List Vl) (st : List Vl) : Prop := ∀ j, j < st.length → regs.getD (35 + j) vl0 = st.getD j vl0
theorem pile_put {regs st : List Vl} {v : Vl} (h : PileR regs st) (hl : regs.length = 100) (hs : st.length < 65) : PileR (regs.set (35 + st.length) v) (st ++ [v]) := by
 intro j hj
 rw [regs_set (by omega)]
 simp at hj
 by_cases e : j = st.length
 ·subst e
  simp
 ·rw [if_neg (by omega), h j (by omega)]
  simp only [List.getD_eq_getElem?_getD]
  rw [List.getElem?_append_left (by omega)]
theorem pile_cut {regs st : List Vl} (h : PileR regs st) {r : List Vl} (hr : ∃ u, st = r ++ u) : PileR regs r := by
 obtain ⟨u, rfl⟩ := hr
 intro j hj
 rw [h j (by simp; omega)]
 simp only [List.getD_eq_getElem?_getD]
 rw [List.getElem?_append_left hj]
theorem dropLast_pre (st : List Vl) : ∃ u, st = st.dropLast ++ u := by
 by_cases h : st = []
 ·subst h
  exact ⟨[], rfl⟩
 ·exact ⟨[st.getLast h], (List.dropLast_concat_getLast h).symm⟩
theorem topV_at {st : List Vl} (h : st ≠ []) : topV st = st.getD (st.length - 1) vl0 := by
 unfold topV
 rw [List.getLast?_eq_getElem?, List.getD_eq_getElem?_getD]
theorem take_pile {names : List Vl} {p : Pt} {st : List Vl} : pileV names [p] st = (takeV names p st).2 ++ [(takeV names p st).1] := rfl
theorem part_runs {l : List Ic} {fs : List Int} {names : List Vl} (p : Pt) (r : List Pt) (st : List Vl) (x : XS) (k : Nat) (hpo : PtOk p) (hs : st.length ≤ 65) (hk : hRun 65 (p :: r) st.length = some k) (hat : AtP l x.pc (exprI (p :: r) (35 + st.length))) (hl : x.regs.length = 100) (hp : PileR x.regs st) (hn : ∀ i, i < 26 → x.regs.getD i vl0 = names.getD i vl0) :
  ∃ i v, i < 100 ∧ 35 ≤ i ∧ stepsX l fs 1 x ⟨x.regs.set i v, x.notes, x.pc + 1⟩ ∧ PileR (x.regs.set i v) (pileV names [p] st) ∧ (pileV names [p] st).length ≤ 65 ∧ hRun 65 r (pileV names [p] st).length = some k ∧ AtP l (x.pc + 1) (exprI r (35 + (pileV names [p] st).length)) := by
 rw [take_pile]
 unfold hRun at hk
 unfold exprI at hat
 by_cases h12 : p.op = 1 ∨ p.op = 2
 ·rw [if_pos h12] at hk hat
  by_cases hB : st.length + 1 ≤ 65
  ·rw [if_pos hB] at hk
   have hone : ∃ v, takeV names p st = (v, st) ∧ stepX ⟨p.op, 35 + st.length, p.num, 0⟩ fs x = ⟨x.regs.set (35 + st.length) v, x.notes, x.pc + 1⟩ := by
    rcases h12 with h1 | h2
    ·refine ⟨⟨p.num, 0⟩, by unfold takeV; rw [if_pos h1], ?_⟩
     unfold stepX XS.give
     rw [if_pos h1]
     simp only
     congr 2
    ·refine ⟨names.getD p.num.toNat vl0, by unfold takeV; rw [if_neg (by omega), if_pos h2], ?_⟩
     have hnm := hpo h2
     unfold stepX XS.give XS.reg
     rw [if_neg (by simp only; omega), if_pos h2]
     simp only
     rw [hn p.num.toNat (by omega)]
     congr 2
   obtain ⟨v, ht, hst⟩ := hone
   have s1 := steps_one (fs := fs) (s := x) hat.head (by simp only; omega)
   rw [hst] at s1
   rw [ht]
   refine ⟨35 + st.length, v, by omega, by omega, s1, pile_put hp hl (by omega), by simp; omega, by simpa using hk, ?_⟩
   have := hat.tail
   simp only [List.length_append, List.length_cons, List.length_nil]
   rw [show ((35 : Int) + ((st.length + (0 + 1) : Nat) : Int)) = 35 + (st.length : Int) + 1 by omega]
   exact this
  ·rw [if_neg hB] at hk
   cases hk
 rw [if_neg h12] at hk hat
 by_cases h3 : p.op = 3
 ·rw [if_pos h3] at hk hat
  by_cases h1 : 1 ≤ st.length
  ·rw [if_pos h1] at hk
   have hne : st ≠ [] := by intro e; rw [e] at h1; simp at h1
   have ht : takeV names p st = (negV (topV st), st.dropLast) := by unfold takeV; rw [if_neg (by omega), if_neg (by omega), if_pos h3]
   have hst : stepX ⟨3, 35 + st.length - 1, 35 + st.length - 1, 0⟩ fs x = ⟨x.regs.set (35 + (st.length - 1)) (negV (topV st)), x.notes, x.pc + 1⟩ := by
    unfold stepX XS.give XS.reg
    simp only
    rw [if_neg (by decide), if_neg (by decide), if_pos trivial, show ((35 : Int) + (st.length : Int) - 1).toNat = 35 + (st.length - 1) by omega, hp _ (by omega), topV_at hne]
   have s1 := steps_one (fs := fs) (s := x) hat.head (by simp)
   rw [hst] at s1
   rw [ht]
   have hpd := pile_cut hp (dropLast_pre st)
   have hdl : st.dropLast.length = st.length - 1 := by simp
   refine ⟨35 + (st.length - 1), _, by omega, by omega, s1, ?_, by simp; omega, ?_, ?_⟩
   ·have := pile_put (v := negV (topV st)) hpd hl (by omega)
    rw [hdl] at this
    exact this
   ·simp only [List.length_append, List.length_cons, List.length_nil, hdl]
    rw [show st.length - 1 + (0 + 1) = st.length by omega]
    exact hk
   ·have := hat.tail
    simp only [List.length_append, List.length_cons, List.length_nil, hdl]
    rw [show st.length - 1 + (0 + 1) = st.length by omega]
    exact this
  ·rw [if_neg h1] at hk
   cases hk
 ·rw [if_neg h3] at hk hat
  by_cases h2 : 2 ≤ st.length ∧ 4 ≤ p.op ∧ p.op ≤ 10
  ·rw [if_pos h2] at hk
   obtain ⟨h2, o4, o10⟩ := h2
   have hdl : st.dropLast.length = st.length - 1 := by simp
   have hdl2 : st.dropLast.dropLast.length = st.length - 2 := by simp; omega
   have hne : st ≠ [] := by intro e; rw [e] at h2; simp at h2
   have hne2 : st.dropLast ≠ [] := by intro e; rw [e] at hdl; simp at hdl; omega
   have hpd := pile_cut hp (dropLast_pre st)
   have hpd2 := pile_cut hpd (dropLast_pre st.dropLast)
   have ht : takeV names p st = (opV p.op (topV st.dropLast) (topV st), st.dropLast.dropLast) := by unfold takeV; rw [if_neg (by omega), if_neg (by omega), if_neg h3]
   have eb : x.regs.getD (35 + (st.length - 1)) vl0 = topV st := by rw [hp _ (by omega), topV_at hne]
   have ea : x.regs.getD (35 + (st.length - 2)) vl0 = topV st.dropLast := by rw [hpd _ (by omega), topV_at hne2, hdl, show st.length - 1 - 1 = st.length - 2 by omega]
   have hst : stepX ⟨p.op, 35 + st.length - 1 - 1, 35 + st.length - 1 - 1, 35 + st.length - 1⟩ fs x = ⟨x.regs.set (35 + (st.length - 2)) (opV p.op (topV st.dropLast) (topV st)), x.notes, x.pc + 1⟩ := by
    unfold stepX XS.give XS.reg
    simp only
    rw [if_neg (by omega), if_neg (by omega), if_neg (by omega), if_neg (by omega), if_neg (by omega), if_neg (by omega), if_neg (by omega), if_neg (by omega), show ((35 : Int) + (st.length : Int) - 1 - 1).toNat = 35 + (st.length - 2) by omega, show ((35 : Int) + (st.length : Int) - 1).toNat = 35 + (st.length - 1) by omega, ea, eb]
   have s1 := steps_one (fs := fs) (s := x) hat.head (by simp only; omega)
   rw [hst] at s1
   rw [ht]
   refine ⟨35 + (st.length - 2), _, by omega, by omega, s1, ?_, by simp only [List.length_append, List.length_cons, List.length_nil, hdl2]; omega, ?_, ?_⟩
   ·have := pile_put (v := opV p.op (topV st.dropLast) (topV st)) hpd2 hl (by omega)
    rw [hdl2] at this
    exact this
   ·simp only [List.length_append, List.length_cons, List.length_nil, hdl2]
    rw [show st.length - 2 + (0 + 1) = st.length - 1 by omega]
    exact hk
   ·have := hat.tail
    simp only [List.length_append, List.length_cons, List.length_nil, hdl2]
    rw [show ((35 : Int) + ((st.length - 2 + (0 + 1) : Nat) : Int)) = 35 + (st.length : Int) - 1 by omega]
    exact this
  ·rw [if_neg h2] at hk
   cases hk
theorem expr_runs {l : List Ic} {fs : List Int} {names : List Vl} : ∀ (P : List Pt) (st : List Vl) (x : XS) (k : Nat), (∀ p ∈ P, PtOk p) → st.length ≤ 65 → hRun 65 P st.length = some k → AtP l x.pc (exprI P (35 + st.length)) → x.regs.length = 100 → PileR x.regs st → (∀ i, i < 26 → x.regs.getD i vl0 = names.getD i vl0) →
  ∃ x', stepsX l fs P.length x x' ∧ x'.pc = x.pc + P.length ∧ x'.notes = x.notes ∧ x'.regs.length = 100 ∧ PileR x'.regs (pileV names P st) ∧ (pileV names P st).length = k ∧ (∀ i, i < 35 → x'.regs.getD i vl0 = x.regs.getD i vl0)
 | [], st, x, k, _, _, hk, _, hl, hp, _ => by
  cases hk
  exact ⟨x, rfl, rfl, rfl, hl, hp, rfl, fun _ _ => rfl⟩
 | p :: r, st, x, k, hok, hs, hk, hat, hl, hp, hn => by
  obtain ⟨i, v, i1, i2, s1, p1, p2, p3, p4⟩ := part_runs (fs := fs) (names := names) p r st x k (hok p (by simp)) hs hk hat hl hp hn
  have hset : ∀ j, j < 35 → (x.regs.set i v).getD j vl0 = x.regs.getD j vl0 := fun j hj => by rw [regs_set (by omega), if_neg (by omega)]
  obtain ⟨x', b1, b2, b3, b4, b5, b6, b7⟩ := expr_runs (l := l) (fs := fs) (names := names) r (pileV names [p] st) ⟨x.regs.set i v, x.notes, x.pc + 1⟩ k (fun q hq => hok q (by simp [hq])) p2 p3 p4 (by simp [hl]) p1 (fun j hj => by simp only; rw [hset j (by omega)]; exact hn j hj)
  have e : pileV names (p :: r) st = pileV names r (pileV names [p] st) := rfl
  rw [e]
  refine ⟨x', by rw [List.length_cons, Nat.add_comm]; exact steps_trans _ _ _ _ _ s1 b1, by rw [b2, List.length_cons]; simp only; omega, b3, b4, b5, b6, fun j hj => ?_⟩
  rw [b7 j hj]
  exact hset j hj
structure Rel (s : SR) (x : XS) : Prop where
 len : x.regs.length = 100
 all : s.1.length = 26
 names : ∀ i, i < 26 → x.regs.getD i vl0 = s.1.getD i vl0
 notes : x.notes = s.2
theorem expr_value {l : List Ic} {fs : List Int} {s : SR} {P : List Pt} {x : XS} (hok : ∀ p ∈ P, PtOk p) (hg : Hg 34 P) (hat : AtP l x.pc (exprI P 35)) (hr : Rel s x) :
  ∃ x', stepsX l fs P.length x x' ∧ x'.pc = x.pc + P.length ∧ Rel s x' ∧ x'.regs.getD 35 vl0 = valueV s.1 P ∧ (∀ i, i < 35 → x'.regs.getD i vl0 = x.regs.getD i vl0) := by
 obtain ⟨x', b1, b2, b3, b4, b5, b6, b7⟩ := expr_runs (l := l) (fs := fs) (names := s.1) P [] x 1 hok (by simp) (hg 65 0 (by omega)) (by simpa using hat) hr.len (fun j hj => absurd hj (by simp)) hr.names
 refine ⟨x', b1, b2, ⟨b4, hr.all, fun i hi => (b7 i (by omega)).trans (hr.names i hi), b3.trans hr.notes⟩, ?_, b7⟩
 have := b5 0 (by omega)
 rw [show 35 + 0 = 35 from rfl] at this
 rw [this]
 unfold valueV
 rw [topV_at (by intro e; rw [e] at b6; simp at b6), b6]
end Go.Proofs.YtdgmoiflahoihaaGreat
namespace Go.Proofs.YtdgmoiflahoihaaGreat
set_option linter.unusedSimpArgs false
set_option linter.unusedVariables false
theorem copy_step {l : List Ic} {fs : List Int} {s : SR} {x : XS} {nm : Int} (hr : Rel s x) (hat : l.getD x.pc ⟨0, 0, 0, 0⟩ = ⟨2, nm, 35, 0⟩) (h0 : 0 ≤ nm) (h26 : nm < 26) :
  ∃ x', stepsX l fs 1 x x' ∧ x'.pc = x.pc + 1 ∧ Rel (s.1.set nm.toNat (x.regs.getD 35 vl0), s.2) x' ∧ (∀ i, 26 ≤ i → x'.regs.getD i vl0 = x.regs.getD i vl0) := by
 have s1 := steps_one (fs := fs) hat (by simp)
 have hst : stepX ⟨2, nm, 35, 0⟩ fs x = ⟨x.regs.set nm.toNat (x.regs.getD 35 vl0), x.notes, x.pc + 1⟩ := by
  unfold stepX XS.give XS.reg
  simp only
  rw [if_neg (by decide), if_pos trivial]
  rfl
 rw [hst] at s1
 refine ⟨_, s1, rfl, ⟨by simp [hr.len], by simp [hr.all], fun i hi => ?_, hr.notes⟩, fun i hi => ?_⟩
 ·simp only
  rw [regs_set (by rw [hr.len]; omega), regs_set (by rw [hr.all]; omega), hr.names i hi]
 ·simp only
  rw [regs_set (by rw [hr.len]; omega), if_neg (by omega)]
theorem note_step {l : List Ic} {fs : List Int} {s : SR} {x : XS} {op : Int} {place label : Nat} (hr : Rel s x) (hat : l.getD x.pc ⟨0, 0, 0, 0⟩ = ⟨op, place, label, 35⟩) (ho : op = 14 ∨ op = 15) :
  ∃ x', stepsX l fs 1 x x' ∧ x'.pc = x.pc + 1 ∧ Rel (s.1, s.2 ++ [⟨op - 14, place, label, x.regs.getD 35 vl0⟩]) x' ∧ x'.regs = x.regs := by
 have s1 := steps_one (fs := fs) hat (by simp only; omega)
 have hst : stepX ⟨op, place, label, 35⟩ fs x = ⟨x.regs, x.notes ++ [⟨op - 14, place, label, x.regs.getD 35 vl0⟩], x.pc + 1⟩ := by
  unfold stepX XS.give XS.reg
  rcases ho with rfl | rfl
  ·simp
  ·simp
 rw [hst] at s1
 refine ⟨_, s1, rfl, ⟨hr.len, hr.all, hr.names, ?_⟩, rfl⟩
 simp only
 rw [hr.notes]
structure Kept (loops : Nat) (x x' : XS) : Prop where
 low : ∀ j, j < loops → x'.regs.getD (27 + j) vl0 = x.regs.getD (27 + j) vl0
 one : x.regs.getD 26 vl0 = ⟨1, 0⟩ → x'.regs.getD 26 vl0 = ⟨1, 0⟩
theorem Kept.refl (loops : Nat) (x : XS) : Kept loops x x := ⟨fun _ _ => rfl, id⟩
theorem Kept.trans {loops : Nat} {x y z : XS} (h : Kept loops x y) (g : Kept loops y z) : Kept loops x z := ⟨fun j hj => (g.low j hj).trans (h.low j hj), fun e => g.one (h.one e)⟩
theorem Kept.of {loops : Nat} {x y : XS} (h : ∀ i, 26 ≤ i → i < 27 + loops → y.regs.getD i vl0 = x.regs.getD i vl0) : Kept loops x y := ⟨fun j hj => h _ (by omega) (by omega), fun e => (h 26 (by omega) (by omega)).trans e⟩
def GenRuns {α : Type} (ok : List α → Prop) (wk : List α → Nat) (rec : Nat → Nat → List α → List Ic) (act : SR → List α → SR) (m : Nat) : Prop :=
 ∀ (l : List Ic) (fs : List Int) (r : List α) (p loops : Nat) (x : XS) (s : SR), ok r → loops ≤ m → AtP l p (rec p loops r) → Rel s x → x.pc = p →
  ∃ k x', k ≤ 3 * wk r ∧ stepsX l fs k x x' ∧ x'.pc = p + (rec p loops r).length ∧ Rel (act s r) x' ∧ Kept loops x x'
theorem rounds_run {α : Type} {ok : List α → Prop} {wk : List α → Nat} {rec : Nat → Nat → List α → List Ic} {act : SR → List α → SR} {m : Nat} (hg : GenRuns ok wk rec act m) {l : List Ic} {fs : List Int} {r : List α} {p loops : Nat} (hok : ok r) (hm : loops + 1 ≤ m)
  (hat : AtP l p (rec p (loops + 1) r ++ [⟨5, (27 + loops : Nat), (27 + loops : Nat), 26⟩, ⟨13, (27 + loops : Nat), (p + (rec p (loops + 1) r).length + 3 : Nat), (p + (rec p (loops + 1) r).length + 3 : Nat)⟩, ⟨12, (p : Nat), 0, 0⟩])) (hlo : 27 + loops < 100) :
  ∀ (c : Nat) (x : XS) (s : SR), Rel s x → x.pc = p → x.regs.getD (27 + loops) vl0 = ⟨((c + 1 : Nat) : Int), 0⟩ → c ≤ 100 → x.regs.getD 26 vl0 = ⟨1, 0⟩ →
   ∃ k x', k ≤ (c + 1) * (3 * wk r + 3) ∧ stepsX l fs k x x' ∧ x'.pc = p + (rec p (loops + 1) r).length + 3 ∧ Rel (repS (fun s => act s r) (c + 1) s) x' ∧ Kept loops x x'
 | c, x, s, hr, hp, hc, hc9, h1 => by
  obtain ⟨k, x1, k1, s1, p1, r1, q1⟩ := hg l fs r p (loops + 1) x s hok hm hat.left hr hp
  have hb := hat.right
  have i0 := hb.head
  have i1 := hb.tail.head
  have i2 := hb.tail.tail.head
  have c1 : x1.regs.getD (27 + loops) vl0 = ⟨((c + 1 : Nat) : Int), 0⟩ := (q1.low loops (by omega)).trans hc
  have o1 := q1.one h1
  -- Sub
  have t1 := steps_one (l := l) (fs := fs) (s := x1) (x := ⟨5, (27 + loops : Nat), (27 + loops : Nat), 26⟩) (by rw [p1]; exact i0) (by simp)
  have e1 : stepX ⟨5, (27 + loops : Nat), (27 + loops : Nat), 26⟩ fs x1 = ⟨x1.regs.set (27 + loops) ⟨(c : Int), 0⟩, x1.notes, x1.pc + 1⟩ := by
   unfold stepX XS.give XS.reg
   simp only
   rw [if_neg (by decide), if_neg (by decide), if_neg (by decide), if_neg (by decide), if_neg (by decide), if_neg (by decide), if_neg (by decide), if_neg (by decide)]
   rw [show (((27 + loops : Nat) : Int)).toNat = 27 + loops by omega, show (26 : Int).toNat = 26 by rfl, c1, o1]
   have : opV 5 ⟨((c + 1 : Nat) : Int), 0⟩ ⟨1, 0⟩ = ⟨(c : Int), 0⟩ := by
    unfold opV numsV
    simp only
    rw [if_neg (by decide), if_neg (by decide), if_neg (by decide), if_pos trivial, vlOf_fits ⟨by omega, by omega⟩]
    congr 1
    omega
   rw [this]
  rw [e1] at t1
  generalize hx2 : (⟨x1.regs.set (27 + loops) ⟨(c : Int), 0⟩, x1.notes, x1.pc + 1⟩ : XS) = x2 at t1
  have p2 : x2.pc = p + (rec p (loops + 1) r).length + 1 := by rw [← hx2]; simp only; omega
  have r2 : Rel (act s r) x2 := by
   rw [← hx2]
   refine ⟨by simp [r1.len], r1.all, fun i hi => ?_, r1.notes⟩
   simp only
   rw [regs_set (by rw [r1.len]; omega), if_neg (by omega)]
   exact r1.names i hi
  have c2 : x2.regs.getD (27 + loops) vl0 = ⟨(c : Int), 0⟩ := by rw [← hx2]; simp only; rw [regs_set (by rw [r1.len]; omega), if_pos rfl]
  have q2 : Kept loops x1 x2 := Kept.of fun i h26 hi => by rw [← hx2]; simp only; rw [regs_set (by rw [r1.len]; omega), if_neg (by omega)]
  have o2 := q2.one o1
  -- When
  have t2 := steps_one (l := l) (fs := fs) (s := x2) (x := ⟨13, (27 + loops : Nat), (p + (rec p (loops + 1) r).length + 3 : Nat), (p + (rec p (loops + 1) r).length + 3 : Nat)⟩) (by rw [p2]; exact i1) (by simp)
  have q12 : Kept loops x x2 := (Kept.trans ⟨fun j hj => q1.low j (by omega), q1.one⟩ q2)
  have key : (c + 1) * (3 * wk r + 3) = c * (3 * wk r + 3) + (3 * wk r + 3) := Nat.succ_mul ..
  cases c with
  | zero =>
   have e2 : stepX ⟨13, (27 + loops : Nat), (p + (rec p (loops + 1) r).length + 3 : Nat), (p + (rec p (loops + 1) r).length + 3 : Nat)⟩ fs x2 = { x2 with pc := p + (rec p (loops + 1) r).length + 3 } := by
    unfold stepX XS.reg
    simp only
    rw [if_neg (by decide), if_neg (by decide), if_neg (by decide), if_neg (by decide), if_neg (by decide), if_pos trivial, show (((27 + loops : Nat) : Int)).toNat = 27 + loops by omega, c2]
    simp
    omega
   rw [e2] at t2
   refine ⟨k + 1 + 1, _, by omega, steps_trans _ _ _ _ _ (steps_trans _ _ _ _ _ s1 t1) t2, rfl, ⟨r2.len, r2.all, r2.names, r2.notes⟩, ⟨q12.low, q12.one⟩⟩
  | succ c =>
   have e2 : stepX ⟨13, (27 + loops : Nat), (p + (rec p (loops + 1) r).length + 3 : Nat), (p + (rec p (loops + 1) r).length + 3 : Nat)⟩ fs x2 = { x2 with pc := x2.pc + 1 } := by
    unfold stepX XS.reg
    simp only
    rw [if_neg (by decide), if_neg (by decide), if_neg (by decide), if_neg (by decide), if_neg (by decide), if_pos trivial, show (((27 + loops : Nat) : Int)).toNat = 27 + loops by omega, c2]
    simp only
    rw [if_neg (by decide), if_neg (by omega)]
   rw [e2] at t2
   have t3 := steps_one (l := l) (fs := fs) (s := { x2 with pc := x2.pc + 1 }) (x := ⟨12, (p : Nat), 0, 0⟩) (by simp only; rw [p2]; exact i2) (by simp)
   have e3 : stepX ⟨12, (p : Nat), 0, 0⟩ fs { x2 with pc := x2.pc + 1 } = { x2 with pc := p } := by
    unfold stepX
    simp only
    rw [if_neg (by decide), if_neg (by decide), if_neg (by decide), if_neg (by decide), if_pos trivial]
    simp
   rw [e3] at t3
   obtain ⟨k4, x4, b1, b2, b3, b4, b5⟩ := rounds_run hg hok hm hat hlo c { x2 with pc := p } (act s r) ⟨r2.len, r2.all, r2.names, r2.notes⟩ rfl c2 (by omega) o2
   refine ⟨k + 1 + 1 + 1 + k4, x4, by omega, steps_trans _ _ _ _ _ (steps_trans _ _ _ _ _ (steps_trans _ _ _ _ _ (steps_trans _ _ _ _ _ s1 t1) t2) t3) b2, b3, b4, q12.trans ⟨b5.low, b5.one⟩⟩
theorem rule_runs {α : Type} {ok : List α → Prop} {wk : List α → Nat} {rec : Nat → Nat → List α → List Ic} {act : SR → List α → SR} {m : Nat} (hg : GenRuns ok wk rec act (m + 1)) (l : List Ic) (fs : List Int) (q : Core × List α × List α) (p loops : Nat) (x : XS) (s : SR) (hc : CoreOk q.1) (hh : q.1.kind ≠ 4 → Hg 34 q.1.parts) (h1 : ok q.2.1) (h2 : ok q.2.2) (hm : loops ≤ m) (hm8 : m ≤ 8) (hat : AtP l p (genT rec p loops q)) (hr : Rel s x) (hp : x.pc = p) :
  ∃ k x', k ≤ 3 * workT wk q ∧ stepsX l fs k x x' ∧ x'.pc = p + (genT rec p loops q).length ∧ Rel (doT act s q) x' ∧ Kept loops x x' := by
 obtain ⟨k0, k4⟩ := hc.kind
 have wk4 : q.1.kind ≠ 4 → workT wk q = 1 + q.1.parts.length + wk q.2.1 + wk q.2.2 := fun h => by unfold workT; rw [if_neg h]
 subst hp
 have hle := exprI_len q.1.parts 35
 by_cases e0 : q.1.kind = 0
 ·obtain ⟨n0, n26⟩ := hc.name (.inl e0)
  have hw := wk4 (by omega)
  unfold genT at hat ⊢
  rw [if_pos e0] at hat ⊢
  obtain ⟨x1, a1, a2, a3, a4, a5⟩ := expr_value (fs := fs) hc.parts (hh (by omega)) hat.left hr
  have hb := hat.right
  rw [hle, ← a2] at hb
  obtain ⟨x2, b1, b2, b3, b4⟩ := copy_step (fs := fs) a3 hb.head n0 n26
  rw [a4] at b3
  refine ⟨_, x2, by omega, steps_trans _ _ _ _ _ a1 b1, by rw [b2, a2]; simp [hle]; omega, ?_, (Kept.of fun i h26 hi => a5 i (by omega)).trans (Kept.of fun i h26 hi => b4 i h26)⟩
  unfold doT
  rw [if_pos e0]
  exact b3
 by_cases e1 : q.1.kind = 1
 ·obtain ⟨n0, n26⟩ := hc.name (.inr e1)
  have hw := wk4 (by omega)
  unfold genT at hat ⊢
  rw [if_neg e0, if_pos e1] at hat ⊢
  obtain ⟨x1, a1, a2, a3, a4, a5⟩ := expr_value (fs := fs) hc.parts (hh (by omega)) hat.left hr
  have hb := hat.right
  rw [hle, ← a2] at hb
  obtain ⟨x2, b1, b2, b3, b4⟩ := copy_step (fs := fs) a3 hb.head n0 n26
  rw [a4] at b3
  obtain ⟨x3, d1, d2, d3, d4⟩ := note_step (fs := fs) b3 (by rw [b2]; exact hb.tail.head) (.inr rfl)
  have e35 : x2.regs.getD 35 vl0 = valueV s.1 q.1.parts := (b4 35 (by omega)).trans a4
  rw [e35] at d3
  refine ⟨_, x3, by omega, steps_trans _ _ _ _ _ (steps_trans _ _ _ _ _ a1 b1) d1, by rw [d2, b2, a2]; simp [hle]; omega, ?_, ((Kept.of fun i h26 hi => a5 i (by omega)).trans (Kept.of fun i h26 hi => b4 i h26)).trans (Kept.of fun i h26 hi => by rw [d4])⟩
  unfold doT
  rw [if_neg e0, if_pos e1]
  exact d3
 by_cases e2 : q.1.kind = 2
 ·have hw := wk4 (by omega)
  unfold genT at hat ⊢
  rw [if_neg e0, if_neg e1, if_pos e2] at hat ⊢
  obtain ⟨x1, a1, a2, a3, a4, a5⟩ := expr_value (fs := fs) hc.parts (hh (by omega)) hat.left hr
  have hb := hat.right
  rw [hle, ← a2] at hb
  obtain ⟨x3, d1, d2, d3, d4⟩ := note_step (fs := fs) a3 hb.head (.inl rfl)
  rw [a4] at d3
  refine ⟨_, x3, by omega, steps_trans _ _ _ _ _ a1 d1, by rw [d2, a2]; simp [hle]; omega, ?_, (Kept.of fun i h26 hi => a5 i (by omega)).trans (Kept.of fun i h26 hi => by rw [d4])⟩
  unfold doT
  rw [if_neg e0, if_neg e1, if_pos e2]
  exact d3
 by_cases e3 : q.1.kind = 3
 ·have hw := wk4 (by omega)
  unfold genT at hat ⊢
  rw [if_neg e0, if_neg e1, if_neg e2, if_pos e3] at hat ⊢
  unfold doT
  rw [if_neg e0, if_neg e1, if_neg e2, if_pos e3]
  rw [hle] at hat ⊢
  generalize hP1 : x.pc + q.1.parts.length + 1 = P1 at hat ⊢
  generalize hF : rec P1 loops q.2.1 = F at hat ⊢
  generalize hP2 : P1 + F.length + 1 = P2 at hat ⊢
  generalize hS : rec P2 loops q.2.2 = S at hat ⊢
  obtain ⟨x1, a1, a2, a3, a4, a5⟩ := expr_value (fs := fs) hc.parts (hh (by omega)) hat.left hr
  have hb := hat.right
  rw [hle, ← a2] at hb
  have kx1 : Kept loops x x1 := Kept.of fun i h26 hi => a5 i (by omega)
  have t1 := steps_one (l := l) (fs := fs) (s := x1) hb.head (by simp)
  have hF1 := hb.tail.left
  have hJ := hb.tail.right.head
  have hS1 := hb.tail.right.tail
  rw [a2, hP1] at hF1 hJ hS1
  rw [hP2] at hS1
  have hlen : x.pc + (exprI q.1.parts 35 ++ (⟨13, 35, (P2 : Nat), (P2 + S.length : Nat)⟩ :: (F ++ (⟨12, (P2 + S.length : Nat), 0, 0⟩ :: S)))).length = P2 + S.length := by
   simp only [List.length_append, List.length_cons, hle]
   omega
  rw [hlen]
  have e : stepX ⟨13, 35, (P2 : Nat), (P2 + S.length : Nat)⟩ fs x1 = { x1 with pc := if (valueV s.1 q.1.parts).fault ≠ 0 then P2 + S.length else if (valueV s.1 q.1.parts).num = 0 then P2 else x1.pc + 1 } := by
   unfold stepX XS.reg
   simp only
   rw [if_neg (by decide), if_neg (by decide), if_neg (by decide), if_neg (by decide), if_neg (by decide), if_pos trivial, show (35 : Int).toNat = 35 by rfl, a4]
   simp only [Int.toNat_natCast]
  rw [e] at t1
  by_cases f0 : (valueV s.1 q.1.parts).fault ≠ 0
  ·rw [if_pos f0] at t1 ⊢
   exact ⟨_, _, by omega, steps_trans _ _ _ _ _ a1 t1, rfl, ⟨a3.len, a3.all, a3.names, a3.notes⟩, ⟨kx1.low, kx1.one⟩⟩
  rw [if_neg f0] at t1 ⊢
  by_cases n0 : (valueV s.1 q.1.parts).num = 0
  ·rw [if_pos n0] at t1
   rw [if_neg (by simpa using n0)]
   obtain ⟨k, x2, b1, b2, b3, b4, b5⟩ := hg l fs q.2.2 P2 loops { x1 with pc := P2 } s h2 (by omega) (by rw [hS]; exact hS1) ⟨a3.len, a3.all, a3.names, a3.notes⟩ rfl
   rw [hS] at b3
   exact ⟨_, x2, by omega, steps_trans _ _ _ _ _ (steps_trans _ _ _ _ _ a1 t1) b2, b3, b4, kx1.trans ⟨b5.low, b5.one⟩⟩
  ·rw [if_neg n0] at t1
   rw [if_pos n0]
   obtain ⟨k, x2, b1, b2, b3, b4, b5⟩ := hg l fs q.2.1 P1 loops { x1 with pc := x1.pc + 1 } s h1 (by omega) (by rw [hF]; exact hF1) ⟨a3.len, a3.all, a3.names, a3.notes⟩ (by simp only; omega)
   rw [hF] at b3
   have t3 := steps_one (l := l) (fs := fs) (s := x2) (x := ⟨12, (P2 + S.length : Nat), 0, 0⟩) (by rw [b3]; exact hJ) (by simp)
   have e3 : stepX ⟨12, (P2 + S.length : Nat), 0, 0⟩ fs x2 = { x2 with pc := P2 + S.length } := by
    unfold stepX
    simp only
    rw [if_neg (by decide), if_neg (by decide), if_neg (by decide), if_neg (by decide), if_pos trivial, Int.toNat_natCast]
   rw [e3] at t3
   exact ⟨_, _, by omega, steps_trans _ _ _ _ _ (steps_trans _ _ _ _ _ (steps_trans _ _ _ _ _ a1 t1) b2) t3, rfl, ⟨b4.len, b4.all, b4.names, b4.notes⟩, kx1.trans ⟨b5.low, b5.one⟩⟩
 ·have e4 : q.1.kind = 4 := by omega
  have hw : workT wk q = 1 + q.1.count.toNat * (1 + wk q.2.1) := by unfold workT; rw [if_pos e4]
  have hct := hc.once e4
  have hct9 := hc.count
  unfold genT at hat ⊢
  rw [if_neg e0, if_neg e1, if_neg e2, if_neg e3] at hat ⊢
  unfold doT
  rw [if_neg e0, if_neg e1, if_neg e2, if_neg e3]
  obtain ⟨c, hcn⟩ : ∃ c : Nat, q.1.count.toNat = c + 1 := ⟨q.1.count.toNat - 1, by omega⟩
  have hci : q.1.count = ((c + 1 : Nat) : Int) := by omega
  rw [hcn] at hw ⊢
  generalize hB : rec (x.pc + 2) (loops + 1) q.2.1 = B at hat ⊢
  have t1 := steps_one (l := l) (fs := fs) (s := x) hat.head (by simp)
  have e1' : stepX ⟨1, 26, 1, 0⟩ fs x = ⟨x.regs.set 26 ⟨1, 0⟩, x.notes, x.pc + 1⟩ := by
   unfold stepX XS.give
   simp only
   rw [if_pos trivial]
   rfl
  rw [e1'] at t1
  have t2 := steps_one (l := l) (fs := fs) (s := ⟨x.regs.set 26 ⟨1, 0⟩, x.notes, x.pc + 1⟩) hat.tail.head (by simp)
  have e2' : stepX ⟨1, (27 + loops : Nat), q.1.count, 0⟩ fs ⟨x.regs.set 26 ⟨1, 0⟩, x.notes, x.pc + 1⟩ = ⟨(x.regs.set 26 ⟨1, 0⟩).set (27 + loops) ⟨q.1.count, 0⟩, x.notes, x.pc + 1 + 1⟩ := by
   unfold stepX XS.give
   simp only
   rw [if_pos trivial]
   rw [Int.toNat_natCast]
  rw [e2'] at t2
  have hl2 : (x.regs.set 26 (⟨1, 0⟩ : Vl)).length = 100 := by simp [hr.len]
  have g2 : ∀ i, ((x.regs.set 26 (⟨1, 0⟩ : Vl)).set (27 + loops) ⟨q.1.count, 0⟩).getD i vl0 = if 27 + loops = i then ⟨q.1.count, 0⟩ else if 26 = i then ⟨1, 0⟩ else x.regs.getD i vl0 := by
   intro i
   rw [regs_set (by omega), regs_set (by rw [hr.len]; omega)]
  have hbody := hat.tail.tail
  rw [show x.pc + 1 + 1 = x.pc + 2 from rfl] at hbody t2
  obtain ⟨k, x', b1, b2, b3, b4, b5⟩ := rounds_run hg (l := l) (fs := fs) (r := q.2.1) (p := x.pc + 2) (loops := loops) h1 (by omega) (by rw [hB]; exact hbody) (by omega) c ⟨(x.regs.set 26 ⟨1, 0⟩).set (27 + loops) ⟨q.1.count, 0⟩, x.notes, x.pc + 2⟩ s ⟨by simp [hr.len], hr.all, fun i hi => by simp only; rw [g2, if_neg (by omega), if_neg (by omega)]; exact hr.names i hi, hr.notes⟩ rfl (by simp only; rw [g2, if_pos rfl, hci]) (by omega) (by simp only; rw [g2, if_neg (by omega), if_pos rfl])
  rw [hB] at b3
  have hmul : (c + 1) * (3 * wk q.2.1 + 3) = 3 * ((c + 1) * (1 + wk q.2.1)) := by
   rw [show 3 * wk q.2.1 + 3 = 3 * (1 + wk q.2.1) by omega, Nat.mul_left_comm]
  refine ⟨1 + 1 + k, x', by omega, steps_trans _ _ _ _ _ (steps_trans _ _ _ _ _ t1 t2) b2, ?_, b4, ?_⟩
  ·rw [b3]
   simp only [List.length_append, List.length_cons, List.length_nil]
   omega
  ·refine Kept.trans ⟨fun j hj => ?_, fun _ => ?_⟩ b5
   ·simp only
    rw [g2, if_neg (by omega), if_neg (by omega)]
   ·simp only
    rw [g2, if_neg (by omega), if_pos rfl]
def HtOk (n : Nat) : List (RT n) → Prop :=
 match n with
 | 0 => fun _ => True
 | n + 1 => fun l => ∀ q ∈ (l : List (Core × List (RT n) × List (RT n))), (q.1.kind ≠ 4 → Hg 34 q.1.parts) ∧ HtOk n q.2.1 ∧ HtOk n q.2.2
theorem rules_run : ∀ (n : Nat), n ≤ 9 → GenRuns (fun l => TreeOk n l ∧ HtOk n l) (workS n) (genF n) (doF n) (9 - n)
 | 0, _ => by
  intro l fs r p loops x s hok hm hat hr hp
  exact ⟨0, x, Nat.zero_le _, rfl, hp, hr, Kept.refl _ _⟩
 | n + 1, hn => by
  have ih := rules_run n (by omega)
  intro l fs r
  induction (r : List (Core × List (RT n) × List (RT n))) with
  | nil =>
   intro p loops x s hok hm hat hr hp
   exact ⟨0, x, Nat.zero_le _, rfl, hp, hr, Kept.refl _ _⟩
  | cons q r ihr =>
   intro p loops x s hok hm hat hr hp
   have hq := hok.1.2 q (by simp)
   have hq2 := hok.2 q (by simp)
   have hat' : AtP l p (genT (genF n) p loops q ++ genL (genF n) (p + (genT (genF n) p loops q).length) loops r) := hat
   obtain ⟨k1, x1, a1, a2, a3, a4, a5⟩ := rule_runs (ok := fun l => TreeOk n l ∧ HtOk n l) (wk := workS n) (act := doF n) (m := 9 - (n + 1)) (by rw [show 9 - (n + 1) + 1 = 9 - n by omega]; exact ih) l fs q p loops x s hq.1 hq2.1 ⟨hq.2.1, hq2.2.1⟩ ⟨hq.2.2, hq2.2.2⟩ hm (by omega) hat'.left hr hp
   have hrest : TreeOk (n + 1) r ∧ HtOk (n + 1) r := by
    refine ⟨⟨?_, fun y hy => hok.1.2 y (List.mem_cons_of_mem _ hy)⟩, fun y hy => hok.2 y (List.mem_cons_of_mem _ hy)⟩
    have hl := hok.1.1
    simp at hl
    omega
   obtain ⟨k2, x2, b1, b2, b3, b4, b5⟩ := ihr (p + (genT (genF n) p loops q).length) loops x1 _ hrest hm hat'.right a4 a3
   refine ⟨k1 + k2, x2, ?_, steps_trans _ _ _ _ _ a2 b2, ?_, b4, a5.trans b5⟩
   ·have e : workS (n + 1) (q :: r) = workT (workS n) q + workS (n + 1) r := workL_cons ..
    rw [e]
    omega
   ·rw [b3]
    show _ = p + (genT (genF n) p loops q ++ genL (genF n) (p + (genT (genF n) p loops q).length) loops r).length
    rw [List.length_append]
    show p + (genT (genF n) p loops q).length + (genL (genF n) (p + (genT (genF n) p loops q).length) loops r).length = _
    omega
end Go.Proofs.YtdgmoiflahoihaaGreat
namespace Go.Proofs.YtdgmoiflahoihaaGreat
set_option linter.unusedSimpArgs false
set_option linter.unusedVariables false
structure GoodI (N : Nat) (x : Ic) : Prop where
 fit : fitsI x N = true
 noin : x.op ≠ 11
 lo : -9223372036854775808 ≤ x.b
 hi : x.b ≤ 9223372036854775807
theorem bel_mk {a n : Int} (h0 : 0 ≤ a) (h1 : a < n) : bel a n = true := by simp [bel, h0, h1]
theorem good_set {N : Nat} {a b : Int} (h0 : 0 ≤ a) (h1 : a < 100) (hl : -9223372036854775808 ≤ b) (hh : b ≤ 9223372036854775807) : GoodI N ⟨1, a, b, 0⟩ :=
 ⟨by simp [fitsI, bel_mk h0 h1], by simp, hl, hh⟩
theorem good_two {N : Nat} {op a b : Int} (ho : op = 2 ∨ op = 3) (h0 : 0 ≤ a) (h1 : a < 100) (g0 : 0 ≤ b) (g1 : b < 100) : GoodI N ⟨op, a, b, 0⟩ := by
 refine ⟨?_, by simp only; omega, by simp only; omega, by simp only; omega⟩
 unfold fitsI
 simp only
 rw [if_neg (by omega), if_neg (by omega), if_pos ho, bel_mk h0 h1, bel_mk g0 g1]
 rfl
theorem good_op {N : Nat} {op a b c : Int} (ho : 4 ≤ op ∧ op ≤ 10) (h0 : 0 ≤ a) (h1 : a < 100) (g0 : 0 ≤ b) (g1 : b < 100) (k0 : 0 ≤ c) (k1 : c < 100) : GoodI N ⟨op, a, b, c⟩ := by
 refine ⟨?_, by simp only; omega, by simp only; omega, by simp only; omega⟩
 unfold fitsI
 simp only
 rw [if_neg (by omega), if_neg (by omega), if_neg (by omega), if_pos ho, bel_mk h0 h1, bel_mk g0 g1, bel_mk k0 k1]
 rfl
theorem good_jump {N a : Nat} (h : a < N) (hN : N ≤ 1000000) : GoodI N ⟨12, (a : Nat), 0, 0⟩ :=
 ⟨by simp [fitsI, bel_mk (show (0 : Int) ≤ (a : Int) by omega) (show (a : Int) < (N : Int) by omega)], by simp, by simp, by simp⟩
theorem good_when {N b c : Nat} {a : Int} (h0 : 0 ≤ a) (h1 : a < 100) (hb : b < N) (hc : c < N) (hN : N ≤ 1000000) : GoodI N ⟨13, a, (b : Nat), (c : Nat)⟩ :=
 ⟨by simp [fitsI, bel_mk h0 h1, bel_mk (show (0 : Int) ≤ (b : Int) by omega) (show (b : Int) < (N : Int) by omega), bel_mk (show (0 : Int) ≤ (c : Int) by omega) (show (c : Int) < (N : Int) by omega)], by simp, by simp only; omega, by simp only; omega⟩
theorem good_note {N p l : Nat} {op : Int} (ho : op = 14 ∨ op = 15) (hp : p ≤ 400) (hl : l < 16) : GoodI N ⟨op, (p : Nat), (l : Nat), 35⟩ := by
 refine ⟨?_, by simp only; omega, by simp only; omega, by simp only; omega⟩
 unfold fitsI
 simp only
 rw [if_neg (by omega), if_neg (by omega), if_neg (by omega), if_neg (by omega), if_neg (by omega), if_neg (by omega), if_neg (by omega), if_pos ho, bel_mk (by omega) (by omega), bel_mk (by omega) (by omega), bel_mk (by omega) (by omega)]
 rfl
theorem expr_good {N : Nat} : ∀ (P : List Pt) (k k' : Nat), (∀ p ∈ P, PtOk p) → (∀ p ∈ P, PtNum p) → k ≤ 65 → hRun 65 P k = some k' → ∀ x ∈ exprI P (35 + k), GoodI N x
 | [], k, k', _, _, _, _ => fun x hx => absurd hx (by simp [exprI])
 | p :: r, k, k', h1, h2, hk, hr => by
  have o1 := h1 p (by simp)
  have o2 := h2 p (by simp)
  have q1 : ∀ p ∈ r, PtOk p := fun q hq => h1 q (by simp [hq])
  have q2 : ∀ p ∈ r, PtNum p := fun q hq => h2 q (by simp [hq])
  unfold hRun at hr
  unfold exprI
  by_cases h12 : p.op = 1 ∨ p.op = 2
  ·rw [if_pos h12] at hr ⊢
   split at hr
   ·rename_i hB
    have ih := expr_good (N := N) r (k + 1) k' q1 q2 (by omega) hr
    intro x hx
    rcases List.mem_cons.mp hx with rfl | hx
    ·rcases h12 with e | e
     ·rw [e]
      exact good_set (by omega) (by omega) o2.1 o2.2
     ·rw [e]
      have := o1 e
      exact good_two (.inl rfl) (by omega) (by omega) (by omega) (by omega)
    ·rw [show (35 : Int) + (k : Int) + 1 = 35 + ((k + 1 : Nat) : Int) by omega] at hx
     exact ih x hx
   ·cases hr
  rw [if_neg h12] at hr ⊢
  by_cases h3 : p.op = 3
  ·rw [if_pos h3] at hr ⊢
   split at hr
   ·rename_i hB
    have ih := expr_good (N := N) r k k' q1 q2 hk hr
    intro x hx
    rcases List.mem_cons.mp hx with rfl | hx
    ·exact good_two (.inr rfl) (by omega) (by omega) (by omega) (by omega)
    ·exact ih x hx
   ·cases hr
  ·rw [if_neg h3] at hr ⊢
   split at hr
   ·rename_i hB
    have ih := expr_good (N := N) r (k - 1) k' q1 q2 (by omega) hr
    intro x hx
    rcases List.mem_cons.mp hx with rfl | hx
    ·exact good_op hB.2 (by omega) (by omega) (by omega) (by omega) (by omega) (by omega)
    ·rw [show (35 : Int) + (k : Int) - 1 = 35 + ((k - 1 : Nat) : Int) by omega] at hx
     exact ih x hx
   ·cases hr
def GenGood {α : Type} (ok : List α → Prop) (rec : Nat → Nat → List α → List Ic) (m : Nat) : Prop :=
 ∀ (r : List α) (p loops N : Nat), ok r → loops ≤ m → p + (rec p loops r).length < N → N ≤ 1000000 → ∀ x ∈ rec p loops r, GoodI N x
theorem rule_good {α : Type} {ok : List α → Prop} {rec : Nat → Nat → List α → List Ic} {m : Nat} (hg : GenGood ok rec (m + 1)) (q : Core × List α × List α) (p loops N : Nat) (hc : CoreOk q.1) (hh : q.1.kind ≠ 4 → Hg 34 q.1.parts) (hn : ∀ p ∈ q.1.parts, PtNum p) (h1 : ok q.2.1) (h2 : ok q.2.2) (hm : loops ≤ m) (hm8 : m ≤ 8) (hN : p + (genT rec p loops q).length < N) (hNN : N ≤ 1000000) : ∀ x ∈ genT rec p loops q, GoodI N x := by
 obtain ⟨k0, k4⟩ := hc.kind
 have hE : q.1.kind ≠ 4 → ∀ x ∈ exprI q.1.parts 35, GoodI N x := fun hk => by
  have := expr_good (N := N) q.1.parts 0 1 hc.parts hn (by omega) (hh hk 65 0 (by omega))
  simpa using this
 have hle := exprI_len q.1.parts 35
 have hpl := hc.place
 have hlb := hc.label
 unfold genT at hN ⊢
 by_cases e0 : q.1.kind = 0
 ·obtain ⟨n0, n26⟩ := hc.name (.inl e0)
  rw [if_pos e0]
  intro x hx
  rcases List.mem_append.mp hx with hx | hx
  ·exact hE (by omega) x hx
  ·rw [List.mem_singleton] at hx
   subst hx
   exact good_two (.inl rfl) n0 (by omega) (by omega) (by omega)
 rw [if_neg e0] at hN ⊢
 by_cases e1 : q.1.kind = 1
 ·obtain ⟨n0, n26⟩ := hc.name (.inr e1)
  rw [if_pos e1]
  intro x hx
  rcases List.mem_append.mp hx with hx | hx
  ·exact hE (by omega) x hx
  ·rcases List.mem_cons.mp hx with rfl | hx
   ·exact good_two (.inl rfl) n0 (by omega) (by omega) (by omega)
   ·rw [List.mem_singleton] at hx
    subst hx
    exact good_note (.inr rfl) hpl hlb
 rw [if_neg e1] at hN ⊢
 by_cases e2 : q.1.kind = 2
 ·rw [if_pos e2]
  intro x hx
  rcases List.mem_append.mp hx with hx | hx
  ·exact hE (by omega) x hx
  ·rw [List.mem_singleton] at hx
   subst hx
   exact good_note (.inl rfl) hpl hlb
 rw [if_neg e2] at hN ⊢
 by_cases e3 : q.1.kind = 3
 ·rw [if_pos e3] at hN ⊢
  rw [hle] at hN ⊢
  generalize hP1 : p + q.1.parts.length + 1 = P1 at hN ⊢
  generalize hF : rec P1 loops q.2.1 = F at hN ⊢
  generalize hP2 : P1 + F.length + 1 = P2 at hN ⊢
  generalize hS : rec P2 loops q.2.2 = S at hN ⊢
  simp only [List.length_append, List.length_cons, hle] at hN
  intro x hx
  rcases List.mem_append.mp hx with hx | hx
  ·exact hE (by omega) x hx
  rcases List.mem_cons.mp hx with rfl | hx
  ·exact good_when (by omega) (by omega) (by omega) (by omega) hNN
  rcases List.mem_append.mp hx with hx | hx
  ·exact hg q.2.1 P1 loops N h1 (by omega) (by rw [hF]; omega) hNN x (by rw [hF]; exact hx)
  rcases List.mem_cons.mp hx with rfl | hx
  ·exact good_jump (by omega) hNN
  ·exact hg q.2.2 P2 loops N h2 (by omega) (by rw [hS]; omega) hNN x (by rw [hS]; exact hx)
 ·rw [if_neg e3] at hN ⊢
  have hct9 := hc.count
  generalize hB : rec (p + 2) (loops + 1) q.2.1 = B at hN ⊢
  simp only [List.length_append, List.length_cons, List.length_nil] at hN
  intro x hx
  rcases List.mem_cons.mp hx with rfl | hx
  ·exact good_set (by omega) (by omega) (by omega) (by omega)
  rcases List.mem_cons.mp hx with rfl | hx
  ·exact good_set (by omega) (by omega) (by omega) (by omega)
  rcases List.mem_append.mp hx with hx | hx
  ·exact hg q.2.1 (p + 2) (loops + 1) N h1 (by omega) (by rw [hB]; omega) hNN x (by rw [hB]; exact hx)
  rcases List.mem_cons.mp hx with rfl | hx
  ·exact good_op (by omega) (by omega) (by omega) (by omega) (by omega) (by omega) (by omega)
  rcases List.mem_cons.mp hx with rfl | hx
  ·exact good_when (by omega) (by omega) (by omega) (by omega) hNN
  ·rw [List.mem_singleton] at hx
   subst hx
   exact good_jump (by omega) hNN
theorem rules_good : ∀ (n : Nat), n ≤ 9 → GenGood (fun l => TreeOk n l ∧ HtOk n l ∧ NumsOk n l) (genF n) (9 - n)
 | 0, _ => fun r p loops N _ _ _ _ x hx => absurd hx (by simp [genF])
 | n + 1, hn => by
  have ih := rules_good n (by omega)
  intro r
  induction (r : List (Core × List (RT n) × List (RT n))) with
  | nil => intro p loops N _ _ _ _ x hx; exact absurd hx (by simp [genF, genL])
  | cons q r ihr =>
   intro p loops N hok hm hN hNN x hx
   have hq := hok.1.2 q (by simp)
   have hq2 := hok.2.1 q (by simp)
   have hq3 := hok.2.2 q (by simp)
   have hx' : x ∈ genT (genF n) p loops q ++ genL (genF n) (p + (genT (genF n) p loops q).length) loops r := hx
   have hN' : p + (genT (genF n) p loops q ++ genL (genF n) (p + (genT (genF n) p loops q).length) loops r).length < N := hN
   rw [List.length_append] at hN'
   rcases List.mem_append.mp hx' with hx' | hx'
   ·exact rule_good (ok := fun l => TreeOk n l ∧ HtOk n l ∧ NumsOk n l) (m := 9 - (n + 1)) (by rw [show 9 - (n + 1) + 1 = 9 - n by omega]; exact ih) q p loops N hq.1 hq2.1 hq3.1 ⟨hq.2.1, hq2.2.1, hq3.2.1⟩ ⟨hq.2.2, hq2.2.2, hq3.2.2⟩ hm (by omega) (by omega) hNN x hx'
   ·refine ihr (p + (genT (genF n) p loops q).length) loops N ⟨⟨?_, fun y hy => hok.1.2 y (List.mem_cons_of_mem _ hy)⟩, fun y hy => hok.2.1 y (List.mem_cons_of_mem _ hy), fun y hy => hok.2.2 y (List.mem_cons_of_mem _ hy)⟩ hm ?_ hNN x hx'
    ·have hl := hok.1.1
     simp at hl
     omega
    ·show p + (genT (genF n) p loops q).length + (genL (genF n) (p + (genT (genF n) p loops q).length) loops r).length < N
     omega
theorem gen_short {C : List UInt8} {A : List Int} : ∀ (n : Nat) (l : List (RT n)) (lo hi p loops : Nat), CutT C A n lo hi l → (genF n p loops l).length ≤ 2 * (hi - lo)
 | 0, l, lo, hi, p, loops, _ => by simp [genF]
 | n + 1, l, lo, hi, p, loops, h => by
  have key : ∀ (l : List (Core × List (RT n) × List (RT n))) (lo p : Nat), CutL (fun i o q => CutOne C A (CutT C A n) i o q) lo hi l → (genL (genF n) p loops l).length ≤ 2 * (hi - lo) := by
   intro l
   induction l with
   | nil => intro lo p _; simp [genL]
   | cons q r ih =>
    intro lo p h
    obtain ⟨hlt, o, h1, h2⟩ := h
    obtain ⟨e, he, he1, he2, hsz, _, _, _⟩ := h1.rest
    obtain ⟨tw, hb, hb1, hb2⟩ := h1.blocks
    obtain ⟨c, hc, hc42, hc40, hc62, hc94⟩ := h1.byte
    have hsp := span_ok h1.over he hb
    have hog := over_gt h1.over
    have hoh := (cutL_le r o _ (fun i o q hq => over_gt hq.over) h2).1
    have hr := ih o (p + (genT (genF n) p loops q).length) h2
    have hsl := sizeC_le C e.lo e.hi
    have w1 := fun p loops => gen_short n q.2.1 tw.p tw.q p loops hb1
    have w2 := fun p loops => gen_short n q.2.2 tw.r tw.s p loops hb2
    have hle := exprI_len q.1.parts 35
    have hone : (genT (genF n) p loops q).length ≤ 2 * (o - lo) := by
     unfold genT
     split
     ·simp [hle]; omega
     split
     ·simp [hle]; omega
     split
     ·simp [hle]; omega
     split
     ·have a1 := w1 (p + q.1.parts.length + 1) loops
      rw [hle]
      have a2 := w2 (p + q.1.parts.length + 1 + (genF n (p + q.1.parts.length + 1) loops q.2.1).length + 1) loops
      simp only [List.length_append, List.length_cons, hle]
      omega
     ·rename_i k0 k1 k2 k3
      have a1 := w1 (p + 2) (loops + 1)
      have k4 : q.1.kind = 4 := by
       have := h1.kind
       omega
      have hct := cutT_le hb1
      have hci : C[lo]'(over_lt h1.over) = 42 := by
       have := hc42.mpr k4
       subst this
       exact (List.getElem?_eq_some_iff.mp hc).2
      have hov := h1.over
      rw [over_at (over_lt h1.over), if_neg (by rw [hci]; decide), if_pos hci] at hov
      cases hov
      have hb' := hb
      rw [blocks_at h1.over (over_lt h1.over), if_neg (by rw [hci]; decide), if_pos hci, if_pos rfl] at hb'
      cases hb'
      simp only at a1 hct
      simp only [List.length_append, List.length_cons, List.length_nil]
      omega
    show (genT (genF n) p loops q ++ genL (genF n) (p + (genT (genF n) p loops q).length) loops r).length ≤ _
    rw [List.length_append]
    omega
  exact key l lo p h
theorem cut_ht {C : List UInt8} {A : List Int} : ∀ (n : Nat) (l : List (RT n)) (lo hi : Nat), CutT C A n lo hi l → HtOk n l
 | 0, l, lo, hi, _ => trivial
 | n + 1, l, lo, hi, h => by
  have key : ∀ (l : List (Core × List (RT n) × List (RT n))) (lo : Nat), CutL (fun i o q => CutOne C A (CutT C A n) i o q) lo hi l → ∀ q ∈ l, (q.1.kind ≠ 4 → Hg 34 q.1.parts) ∧ HtOk n q.2.1 ∧ HtOk n q.2.2 := by
   intro l
   induction l with
   | nil => intro lo _ q hq; cases hq
   | cons q r ih =>
    intro lo h y hy
    obtain ⟨hlt, o, h1, h2⟩ := h
    rcases List.mem_cons.mp hy with rfl | hy
    ·obtain ⟨tw, hb, hb1, hb2⟩ := h1.blocks
     refine ⟨fun hk => ?_, cut_ht n _ _ _ hb1, cut_ht n _ _ _ hb2⟩
     obtain ⟨e, _, sv, hev⟩ := h1.val hk
     exact hev.2
    ·exact ih o h2 y hy
  exact key l lo h
theorem few_names : ∀ (n : Nat) (l : List Int), l.Nodup → (∀ x ∈ l, 0 ≤ x ∧ x < n) → l.length ≤ n
 | 0, l, _, h => by
  cases l with
  | nil => simp
  | cons x r => exact absurd (h x (by simp)) (by omega)
 | n + 1, l, hd, h => by
  have hf := few_names n (l.filter (fun x => decide (x ≠ (n : Int)))) (hd.filter _) (fun x hx => by
   have := List.mem_filter.mp hx
   have h1 := h x this.1
   have h2 : x ≠ (n : Int) := by simpa using this.2
   omega)
  have hc : l.length ≤ (l.filter (fun x => decide (x ≠ (n : Int)))).length + 1 := by
   clear hf h
   induction l with
   | nil => simp
   | cons x r ih =>
    have hd' := List.nodup_cons.mp hd
    by_cases e : x = (n : Int)
    ·have : r.filter (fun x => decide (x ≠ (n : Int))) = r := by
      rw [List.filter_eq_self]
      intro y hy
      simp
      intro he
      exact hd'.1 (by rw [e, ← he]; exact hy)
     rw [List.filter_cons_of_neg (by simp [e]), this]
     simp
    ·rw [List.filter_cons_of_pos (by simp [e])]
     simp only [List.length_cons]
     have := ih hd'.2
     omega
  omega
theorem twice_nodup : ∀ (l pre : List Hd), twiceL pre l = none → (l.map (·.name)).Nodup ∧ ∀ h ∈ l, ∀ g ∈ pre, g.name ≠ h.name
 | [], pre, _ => ⟨by simp, fun h hh => by cases hh⟩
 | h :: r, pre, ht => by
  rw [twiceL_cons] at ht
  split at ht
  ·cases ht
  ·rename_i hn
   obtain ⟨a, b⟩ := twice_nodup r (pre ++ [h]) ht
   have hpre : ∀ g ∈ pre, g.name ≠ h.name := by
    intro g hg he
    apply hn
    unfold hasN
    rw [List.any_eq_true]
    exact ⟨g, hg, by simpa using he⟩
   refine ⟨?_, fun x hx g hg => ?_⟩
   ·rw [List.map_cons, List.nodup_cons]
    refine ⟨fun hm => ?_, a⟩
    obtain ⟨y, hy, he⟩ := List.mem_map.mp hm
    exact b y hy h (by simp) he.symm
   ·rcases List.mem_cons.mp hx with rfl | hx
    ·exact hpre g hg
    ·exact b x hx g (by simp [hg])
theorem heads_few {l : List Hd} (h : twiceL [] l = none) (hok : ∀ h ∈ l, 0 ≤ h.name ∧ h.name < 26) : l.length ≤ 26 := by
 have := few_names 26 (l.map (·.name)) (twice_nodup l [] h).1 (fun x hx => by
  obtain ⟨y, hy, rfl⟩ := List.mem_map.mp hx
  exact hok y hy)
 simpa using this
theorem fieldsI_len : ∀ (l : List Hd) (k : Nat), (fieldsI l k).length = countF l
 | [], k => rfl
 | h :: r, k => by
  unfold fieldsI
  rw [countF_cons]
  split
  ·rename_i e; simp [e, fieldsI_len r (k + 1)]; omega
  ·rename_i e; simp [e, fieldsI_len r k]
theorem fieldsI_good {N : Nat} : ∀ (l : List Hd) (k : Nat), (∀ h ∈ l, 0 ≤ h.name ∧ h.name < 26) → k + countF l ≤ 26 → ∀ x ∈ fieldsI l k, fitsI x N = true ∧ x.op = 11 ∧ 0 ≤ x.b ∧ x.b < k + countF l
 | [], k, _, _ => fun x hx => absurd hx (by simp [fieldsI])
 | h :: r, k, hn, hk => by
  have h0 := hn h (by simp)
  have hn' : ∀ h ∈ r, 0 ≤ h.name ∧ h.name < 26 := fun y hy => hn y (by simp [hy])
  unfold fieldsI
  rw [countF_cons] at hk ⊢
  split
  ·rename_i e
   rw [if_pos e] at hk
   intro x hx
   rcases List.mem_cons.mp hx with rfl | hx
   ·refine ⟨?_, rfl, by simp only; omega, by simp only; omega⟩
    simp [fitsI, bel_mk h0.1 (show h.name < 100 by omega), bel_mk (show (0 : Int) ≤ (k : Int) by omega) (show (k : Int) < 26 by omega)]
   ·have := fieldsI_good (N := N) r (k + 1) hn' (by omega) x hx
    refine ⟨this.1, this.2.1, this.2.2.1, by omega⟩
  ·rename_i e
   rw [if_neg e] at hk
   intro x hx
   have := fieldsI_good (N := N) r k hn' (by omega) x hx
   refine ⟨this.1, this.2.1, this.2.2.1, by omega⟩
theorem fields_run {l : List Ic} {fs : List Int} {M : List Nt} : ∀ (hs : List Hd) (k : Nat) (x : XS) (vals : List Vl), (∀ h ∈ hs, 0 ≤ h.name ∧ h.name < 26) → AtP l x.pc (fieldsI hs k) → k + countF hs ≤ fs.length → Rel (vals, M) x →
  ∃ x', stepsX l fs (countF hs) x x' ∧ x'.pc = x.pc + countF hs ∧ Rel (fillV hs (fs.drop k) vals, M) x'
 | [], k, x, vals, _, _, _, hr => ⟨x, rfl, rfl, hr⟩
 | h :: r, k, x, vals, hn, hat, hk, hr => by
  have h0 := hn h (by simp)
  have hn' : ∀ h ∈ r, 0 ≤ h.name ∧ h.name < 26 := fun y hy => hn y (by simp [hy])
  unfold fieldsI at hat
  rw [countF_cons] at hk ⊢
  cases e : h.field
  ·rw [e] at hat hk
   simp only [Bool.false_eq_true, if_false] at hat hk ⊢
   rw [fillV_skip e, Nat.zero_add]
   exact fields_run r k x vals hn' hat (by omega) hr
  ·rw [e] at hat hk
   simp only [if_true] at hat hk ⊢
   have hkl : k < fs.length := by omega
   rw [List.drop_eq_getElem_cons hkl, fillV_some e]
   have s1 := steps_one (l := l) (fs := fs) (s := x) hat.head (by simp)
   have hst : stepX ⟨11, h.name, (k : Int), 0⟩ fs x = ⟨x.regs.set h.name.toNat ⟨fs[k], 0⟩, x.notes, x.pc + 1⟩ := by
    unfold stepX XS.give
    simp only
    rw [if_neg (by decide), if_neg (by decide), if_neg (by decide), if_pos trivial]
    simp [List.getElem?_eq_getElem hkl]
   rw [hst] at s1
   have hr1 : Rel (vals.set h.name.toNat ⟨fs[k], 0⟩, M) ⟨x.regs.set h.name.toNat ⟨fs[k], 0⟩, x.notes, x.pc + 1⟩ := by
    refine ⟨by simp [hr.len], by have := hr.all; simpa using this, fun i hi => ?_, hr.notes⟩
    have ha := hr.all
    simp only at ha ⊢
    rw [regs_set (by rw [hr.len]; omega), regs_set (l := vals) (by omega), hr.names i hi]
   obtain ⟨x', b1, b2, b3⟩ := fields_run (l := l) (fs := fs) (M := M) r (k + 1) ⟨x.regs.set h.name.toNat ⟨fs[k], 0⟩, x.notes, x.pc + 1⟩ _ hn' hat.tail (by omega) hr1
   exact ⟨x', steps_trans _ _ _ _ _ s1 b1, by rw [b2]; simp only; omega, b3⟩
theorem vloop_ok {n : Nat} {e : Ic} (he : endsI e = true) (hf : fitsI e n = true) : ∀ (l : List Ic) (k : Nat), (∀ x ∈ l, fitsI x n = true) → vloop n (l ++ [e]) k = (0, 0)
 | [], k, _ => by
  show (if fitsI e n && (!true || endsI e) then vloop n [] (k + 1) else _) = _
  rw [he, hf]
  rfl
 | x :: r, k, h => by
  have hx := h x (by simp)
  have ne : (r ++ [e]).isEmpty = false := by cases r <;> rfl
  show (if fitsI x n && (!(r ++ [e]).isEmpty || endsI x) then vloop n (r ++ [e]) (k + 1) else _) = _
  rw [hx, ne]
  exact vloop_ok he hf r (k + 1) (fun y hy => h y (by simp [hy]))
structure GenFacts (t : List UInt8) : Prop where
 valid : validI (genP t) = (0, 0)
 short : (genP t).length ≤ 2000
 bound : ∀ x ∈ genP t, -9223372036854775808 ≤ x.b ∧ x.b ≤ 9223372036854775807
 few : countF (parseH t).2 ≤ 26
 runs : ∀ fs : List Int, fs.length = countF (parseH t).2 → execI (genP t) fs = (0, (runP t fs).2)
theorem atP_self (l : List Ic) : AtP l 0 l := fun i _ => by rw [Nat.zero_add]
theorem gen_facts {t : List UInt8} (h : (checkP t).1 = 0) : GenFacts t := by
 obtain ⟨hl, hbad, htw, hwk, _⟩ := checkP_ok h
 have hpo := parse_ok hl hbad
 have hnum := parse_nums t
 obtain ⟨_, B, hb, hH, hT⟩ := (parse_spec t).2 hbad
 have hB := begin_le hb
 have hk := kept_le t
 have hnm : ∀ x ∈ (parseH t).2, 0 ≤ x.name ∧ x.name < 26 := fun x hx => ⟨(hpo.heads x hx).1, (hpo.heads x hx).2.1⟩
 have h26 := heads_few htw hnm
 have hcf : countF (parseH t).2 ≤ 26 := Nat.le_trans (List.length_filter_le _ _) h26
 have hfl := fieldsI_len (parseH t).2 0
 have hht := cut_ht 9 _ _ _ hT
 have hsh := gen_short 9 (parseR t).2 B (keptL t).length (fieldsI (parseH t).2 0).length 0 hT
 generalize hG : genF 9 (fieldsI (parseH t).2 0).length 0 (parseR t).2 = G at *
 generalize hF : fieldsI (parseH t).2 0 = F at *
 have eP : genP t = F ++ (G ++ [⟨0, 0, 0, 0⟩]) := by unfold genP; rw [hF, hG]
 have hlen : (genP t).length = F.length + G.length + 1 := by rw [eP]; simp; omega
 have hlen2 : (genP t).length ≤ 2000 := by omega
 have gF : ∀ x ∈ F, fitsI x (genP t).length = true ∧ x.op = 11 ∧ 0 ≤ x.b ∧ x.b < 0 + countF (parseH t).2 := by
  rw [← hF]
  exact fieldsI_good (N := (genP t).length) (parseH t).2 0 hnm (by omega)
 have gG : ∀ x ∈ G, GoodI (genP t).length x := by
  have := rules_good 9 (by omega) (parseR t).2 F.length 0 (genP t).length ⟨hpo.tree, hht, hnum⟩ (by omega) (by rw [hG]; omega) (by omega)
  rw [hG] at this
  exact this
 have hval : validI (genP t) = (0, 0) := by
  unfold validI
  rw [if_neg (by omega), if_neg (by omega)]
  have e2 : genP t = (F ++ G) ++ [⟨0, 0, 0, 0⟩] := by rw [eP]; simp
  generalize hN : (genP t).length = N at *
  rw [e2]
  refine vloop_ok (by rfl) (by rfl) _ _ (fun x hx => ?_)
  rcases List.mem_append.mp hx with hx | hx
  ·exact (gF x hx).1
  ·exact (gG x hx).fit
 refine ⟨hval, hlen2, fun x hx => ?_, hcf, fun fs hfs => ?_⟩
 ·rw [eP] at hx
  rcases List.mem_append.mp hx with hx | hx
  ·have := gF x hx
   omega
  rcases List.mem_append.mp hx with hx | hx
  ·exact ⟨(gG x hx).lo, (gG x hx).hi⟩
  ·rw [List.mem_singleton] at hx
   subst hx
   simp
 ·have hhas : hasI (genP t) fs.length = true := by
   unfold hasI
   rw [List.all_eq_true]
   intro x hx
   rw [eP] at hx
   rcases List.mem_append.mp hx with hx | hx
   ·have := gF x hx
    have h4 : ¬ ((fs.length : Int) ≤ x.b) := by omega
    simp [h4]
   rcases List.mem_append.mp hx with hx | hx
   ·have := (gG x hx).noin
    simp [this]
   ·rw [List.mem_singleton] at hx
    subst hx
    simp
  have hat : AtP (genP t) 0 (F ++ (G ++ [⟨0, 0, 0, 0⟩])) := by
   have := atP_self (genP t)
   rw [eP] at this ⊢
   exact this
  have r0 : Rel (vals0, []) x0 := ⟨by simp [x0, regs0], by simp [vals0], fun i hi => by simp only [x0, regs0, vals0, List.getD_eq_getElem?_getD]; rw [List.getElem?_replicate, List.getElem?_replicate, if_pos (by omega), if_pos hi], rfl⟩
  obtain ⟨x1, a1, a2, a3⟩ := fields_run (l := genP t) (fs := fs) (M := []) (parseH t).2 0 x0 vals0 hnm (by rw [hF]; exact hat.left) (by omega) r0
  have hp1 : x1.pc = F.length := by rw [a2, hfl]; show 0 + _ = _; omega
  have hatG : AtP (genP t) F.length (G ++ [⟨0, 0, 0, 0⟩]) := by have := hat.right; rwa [Nat.zero_add] at this
  obtain ⟨k, x2, b1, b2, b3, b4, b5⟩ := rules_run 9 (by omega) (genP t) fs (parseR t).2 F.length 0 x1 _ ⟨hpo.tree, hht⟩ (by omega) (by rw [hG]; exact hatG.left) a3 hp1
  rw [hG] at b3
  have hend := hatG.right.head
  rw [← b3] at hend
  have hx : execF (genP t) fs 50000 x0 = some x2.notes := by
   have s := steps_trans _ _ _ _ _ a1 b2
   rw [show 50000 = (countF (parseH t).2 + k) + ((50000 - (countF (parseH t).2 + k) - 1) + 1) by omega, steps_exec _ _ _ _ s]
   unfold execF
   rw [hend, if_pos rfl]
  unfold execI
  rw [if_neg (by rw [hval]; simp), if_pos hhas, hx]
  simp only
  rw [b4.notes]
  unfold runP
  rw [if_neg (by simpa using h), if_neg (by simpa using hfs)]
  simp
end Go.Proofs.YtdgmoiflahoihaaGreat
