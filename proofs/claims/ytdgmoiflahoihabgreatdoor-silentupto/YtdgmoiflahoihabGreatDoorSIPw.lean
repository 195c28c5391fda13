import Derived.Test.YtdgmoiflahoihabGreatDoorPLew

namespace Go.Proofs.YtdgmoiflahoihabGreatDoor
open Go.RowKit
set_option linter.unusedSimpArgs false
set_option linter.unusedVariables false
theorem goes_iff {a b : Nat} : goesB a b = true ↔ ∀ i, a.testBit i = true → b.testBit i = true := by
 unfold goesB
 rw [decide_eq_true_iff]
 constructor
 ·intro h i hi
  have := congrArg (fun q => q.testBit i) h
  simp only [Nat.testBit_or, hi, Bool.true_or] at this
  exact this.symm
 ·intro h
  apply Nat.eq_of_testBit_eq
  intro i
  rw [Nat.testBit_or]
  cases ha : a.testBit i
  ·simp
  ·rw [h i ha]; rfl
theorem goes_trans {a b c : Nat} (h : goesB a b = true) (k : goesB b c = true) : goesB a c = true :=
 goes_iff.mpr fun i hi => goes_iff.mp k i (goes_iff.mp h i hi)
theorem goes_or {a b c : Nat} (h : goesB (a ||| b) c = true) : goesB a c = true ∧ goesB b c = true :=
 ⟨goes_iff.mpr fun i hi => goes_iff.mp h i (by rw [Nat.testBit_or, hi]; rfl), goes_iff.mpr fun i hi => goes_iff.mp h i (by rw [Nat.testBit_or, hi, Bool.or_true])⟩
def LowEq (r : Nat) (of : List Nat) (u v : List Vl) : Prop := ∀ i, i < 26 → goesB (of.getD i 0) r = true → u.getD i vl0 = v.getD i vl0
def seenN (r : Nat) (l : List Nt) : List Nt := l.filter fun x => x.kind == 1 && goesB x.label r
def toldN (r : Nat) (l : List Nt) : List Nt := l.filter fun x => x.kind == 0 && goesB x.label r
theorem seenN_app (r : Nat) (a b : List Nt) : seenN r (a ++ b) = seenN r a ++ seenN r b := by simp [seenN]
theorem toldN_app (r : Nat) (a b : List Nt) : toldN r (a ++ b) = toldN r a ++ toldN r b := by simp [toldN]
def Parts2 (a b : List Nt) : Prop := ∃ p x y c d, a = p ++ x :: c ∧ b = p ++ y :: d ∧ x ≠ y
theorem Parts2.more {a b : List Nt} (h : Parts2 a b) (e f : List Nt) : Parts2 (a ++ e) (b ++ f) := by
 obtain ⟨p, x, y, c, d, rfl, rfl, hn⟩ := h
 exact ⟨p, x, y, c ++ e, d ++ f, by simp, by simp, hn⟩
theorem Parts2.ne {a b : List Nt} (h : Parts2 a b) : a ≠ b := by
 obtain ⟨p, x, y, c, d, rfl, rfl, hn⟩ := h
 intro e
 have := List.append_cancel_left e
 simp only [List.cons.injEq] at this
 exact hn this.1
def SiInv (r : Nat) (of : List Nat) (s t : SR) : Prop := Parts2 (seenN r s.2) (seenN r t.2) ∨ (seenN r s.2 = seenN r t.2 ∧ toldN r s.2 = toldN r t.2 ∧ LowEq r of s.1 t.1)
def SiSame (r : Nat) (of : List Nat) (s t : SR) : Prop := seenN r t.2 = seenN r s.2 ∧ toldN r t.2 = toldN r s.2 ∧ LowEq r of t.1 s.1
theorem SiSame.refl (r : Nat) (of : List Nat) (s : SR) : SiSame r of s s := ⟨rfl, rfl, fun _ _ _ => rfl⟩
theorem SiSame.trans {r : Nat} {of : List Nat} {s t u : SR} (h : SiSame r of s t) (k : SiSame r of t u) : SiSame r of s u :=
 ⟨k.1.trans h.1, k.2.1.trans h.2.1, fun i hi hl => (k.2.2 i hi hl).trans (h.2.2 i hi hl)⟩
theorem SiInv.both {r : Nat} {of : List Nat} {s t s' t' : SR} (h : SiInv r of s t) (hs : SiSame r of s s') (ht : SiSame r of t t') : SiInv r of s' t' := by
 rcases h with h | ⟨h1, h2, h3⟩
 ·left; rw [hs.1, ht.1]; exact h
 ·right
  refine ⟨by rw [hs.1, ht.1, h1], by rw [hs.2.1, ht.2.1, h2], fun i hi hl => ?_⟩
  rw [hs.2.2 i hi hl, ht.2.2 i hi hl, h3 i hi hl]
def Grows (f : SR → SR) : Prop := ∀ s, ∃ A, (f s).2 = s.2 ++ A
theorem SiInv.grow {r : Nat} {of : List Nat} {s t : SR} (h : Parts2 (seenN r s.2) (seenN r t.2)) {s' t' : SR} (hs : ∃ A, s'.2 = s.2 ++ A) (ht : ∃ A, t'.2 = t.2 ++ A) : SiInv r of s' t' := by
 obtain ⟨A, e⟩ := hs
 obtain ⟨B, f⟩ := ht
 left
 rw [e, f, seenN_app, seenN_app]
 exact h.more _ _
theorem getD_set_vl (l : List Vl) (j i : Nat) (v : Vl) (h : i ≠ j) : (l.set j v).getD i vl0 = l.getD i vl0 := by
 rw [List.getD_eq_getElem?_getD, List.getElem?_set_ne (fun e => h e.symm), ← List.getD_eq_getElem?_getD]
theorem low_set_high {r : Nat} {of : List Nat} {u : List Vl} {j : Nat} {v : Vl} (h : goesB (of.getD j 0) r = false) : LowEq r of (u.set j v) u := by
 intro i hi hl
 by_cases e : i = j
 ·subst e; rw [h] at hl; cases hl
 ·exact getD_set_vl _ _ _ _ e
theorem low_set_same {r : Nat} {of : List Nat} {u w : List Vl} {j : Nat} {v : Vl} (hu : u.length = 26) (hw : w.length = 26) (h : LowEq r of u w) : LowEq r of (u.set j v) (w.set j v) := by
 intro i hi hl
 by_cases e : i = j
 ·subst e
  rw [List.getD_eq_getElem?_getD, List.getD_eq_getElem?_getD, List.getElem?_set_self (by omega), List.getElem?_set_self (by omega)]
 ·rw [getD_set_vl _ _ _ _ e, getD_set_vl _ _ _ _ e]; exact h i hi hl
theorem labL_low {r : Nat} {of : List Nat} : ∀ (l : List Pt) (a : Nat), goesB (labL of l a) r = true → goesB a r = true ∧ ∀ p ∈ l, p.op = 2 → goesB (of.getD p.num.toNat 0) r = true
 | [], a, h => ⟨h, by simp⟩
 | p :: l, a, h => by
  rw [labL_cons] at h
  obtain ⟨h1, h2⟩ := labL_low l _ h
  by_cases e : p.op = 2
  ·rw [if_pos e] at h1
   obtain ⟨k1, k2⟩ := goes_or h1
   refine ⟨k1, fun x hx hx2 => ?_⟩
   rcases List.mem_cons.mp hx with rfl | hx
   ·exact k2
   ·exact h2 x hx hx2
  ·rw [if_neg e] at h1
   refine ⟨h1, fun x hx hx2 => ?_⟩
   rcases List.mem_cons.mp hx with rfl | hx
   ·exact absurd hx2 e
   ·exact h2 x hx hx2
theorem pile_same {u w : List Vl} : ∀ (l : List Pt) (st : List Vl), (∀ p ∈ l, p.op = 2 → u.getD p.num.toNat vl0 = w.getD p.num.toNat vl0) → pileV u l st = pileV w l st
 | [], st, _ => rfl
 | p :: l, st, h => by
  have e : takeV u p st = takeV w p st := by
   unfold takeV
   by_cases h2 : p.op = 2
   ·have h1 : ¬ p.op = 1 := by omega
    simp only [if_neg h1, if_pos h2, h p (by simp) h2]
   ·rw [if_neg h2, if_neg h2]
  unfold pileV
  rw [e]
  exact pile_same l _ (fun x hx => h x (by simp [hx]))
theorem value_same {r : Nat} {of : List Nat} {u w : List Vl} {l : List Pt} (h : LowEq r of u w) (hp : ∀ p ∈ l, PtOk p) (hl : goesB (labL of l 0) r = true) : valueV u l = valueV w l := by
 unfold valueV
 rw [pile_same l [] fun p hm h2 => h _ (by have := hp p hm h2; omega) ((labL_low l 0 hl).2 p hm h2)]
structure RecSi {α : Type} (r : Nat) (of : List Nat) (cl : Nat → List α → Option Nat) (ok : List α → Prop) (rec : SR → List α → SR) : Prop where
 low : ∀ g l, cl g l = none → ok l → ∀ s t, s.1.length = 26 → t.1.length = 26 → SiInv r of s t → SiInv r of (rec s l) (rec t l)
 high : ∀ g l, cl g l = none → ok l → goesB g r = false → ∀ s, SiSame r of s (rec s l)
 grow : ∀ l s, ∃ A, (rec s l).2 = s.2 ++ A
 len : ∀ l s, (rec s l).1.length = s.1.length
theorem rep_len {f : SR → SR} (h : ∀ s, (f s).1.length = s.1.length) : ∀ (n : Nat) (s : SR), (repS f n s).1.length = s.1.length
 | 0, s => rfl
 | n + 1, s => (rep_len h n (f s)).trans (h s)
theorem rep_grow {f : SR → SR} (h : Grows f) : ∀ (n : Nat), Grows (repS f n)
 | 0, s => ⟨[], by simp [repS]⟩
 | n + 1, s => by
  obtain ⟨A, e⟩ := h s
  obtain ⟨B, k⟩ := rep_grow h n (f s)
  exact ⟨A ++ B, by show (repS f n (f s)).2 = _; rw [k, e, List.append_assoc]⟩
theorem rep_same {r : Nat} {of : List Nat} {f : SR → SR} (h : ∀ s, SiSame r of s (f s)) : ∀ (n : Nat) (s : SR), SiSame r of s (repS f n s)
 | 0, s => SiSame.refl _ _ _
 | n + 1, s => (h s).trans (rep_same h n (f s))
theorem rep_low {r : Nat} {of : List Nat} {f : SR → SR} (hl : ∀ s, (f s).1.length = s.1.length) (h : ∀ s t, s.1.length = 26 → t.1.length = 26 → SiInv r of s t → SiInv r of (f s) (f t)) : ∀ (n : Nat) (s t : SR), s.1.length = 26 → t.1.length = 26 → SiInv r of s t → SiInv r of (repS f n s) (repS f n t)
 | 0, s, t, _, _, k => k
 | n + 1, s, t, h1, h2, k => rep_low hl h n (f s) (f t) ((hl s).trans h1) ((hl t).trans h2) (h s t h1 h2 k)
theorem doT_grow {α : Type} {rec : SR → List α → SR} (hg : ∀ l s, ∃ A, (rec s l).2 = s.2 ++ A) (s : SR) (q : Core × List α × List α) : ∃ A, (doT rec s q).2 = s.2 ++ A := by
 unfold doT
 split
 ·exact ⟨[], by simp⟩
 split
 ·exact ⟨_, rfl⟩
 split
 ·exact ⟨_, rfl⟩
 split
 ·split
  ·exact ⟨[], by simp⟩
  split
  ·exact hg _ _
  ·exact hg _ _
 ·exact rep_grow (fun s => hg _ s) _ s
theorem doT_len {α : Type} {rec : SR → List α → SR} (hl : ∀ l s, (rec s l).1.length = s.1.length) (s : SR) (q : Core × List α × List α) : (doT rec s q).1.length = s.1.length := by
 unfold doT
 split
 ·simp
 split
 ·simp
 split
 ·rfl
 split
 ·split
  ·rfl
  split
  ·exact hl _ _
  ·exact hl _ _
 ·exact rep_len (fun s => hl _ s) _ s
theorem seen_one (r : Nat) (x : Nt) : seenN r [x] = if (x.kind == 1 && goesB x.label r) then [x] else [] := by
 simp only [seenN, List.filter_cons, List.filter_nil]
theorem told_one (r : Nat) (x : Nt) : toldN r [x] = if (x.kind == 0 && goesB x.label r) then [x] else [] := by
 simp only [toldN, List.filter_cons, List.filter_nil]
theorem high_of {a b r : Nat} (h : goesB a b = true) (k : goesB a r = false) : goesB b r = false := by
 cases e : goesB b r
 ·rfl
 ·rw [goes_trans h e] at k; cases k
theorem or_high {a b r : Nat} (k : goesB a r = false) : goesB (a ||| b) r = false := by
 cases e : goesB (a ||| b) r
 ·rfl
 ·rw [(goes_or e).1] at k; cases k
theorem doT_high {α : Type} {r : Nat} {of : List Nat} {cl : Nat → List α → Option Nat} {ok : List α → Prop} {rec : SR → List α → SR} (hr : RecSi r of cl ok rec) (g : Nat) (q : Core × List α × List α) (hc : cleanT of g q.1 = true) (h1 : cl (g ||| labL of q.1.parts 0) q.2.1 = none) (h2 : cl (g ||| labL of q.1.parts 0) q.2.2 = none) (o1 : ok q.2.1) (o2 : ok q.2.2) (hg : goesB g r = false) (s : SR) : SiSame r of s (doT rec s q) := by
 have hg2 : goesB (g ||| labL of q.1.parts 0) r = false := or_high hg
 unfold cleanT at hc
 unfold doT
 split
 ·rename_i k
  rw [if_pos k] at hc
  exact ⟨rfl, rfl, low_set_high (high_of hc hg2)⟩
 rename_i k0
 rw [if_neg k0] at hc
 split
 ·rename_i k
  rw [if_pos k, Bool.and_eq_true] at hc
  have hL := high_of hc.1 hg
  refine ⟨?_, ?_, low_set_high (high_of hc.2 hL)⟩
  ·rw [seenN_app, seen_one]; simp [hL]
  ·rw [toldN_app, told_one]; simp
 rename_i k1
 rw [if_neg k1] at hc
 split
 ·rename_i k
  rw [if_pos k] at hc
  have hL := high_of hc hg2
  refine ⟨?_, ?_, fun _ _ _ => rfl⟩
  ·rw [seenN_app, seen_one]; simp
  ·rw [toldN_app, told_one]; simp [hL]
 split
 ·split
  ·exact SiSame.refl _ _ _
  split
  ·exact hr.high _ _ h1 o1 hg2 s
  ·exact hr.high _ _ h2 o2 hg2 s
 ·exact rep_same (fun s => hr.high _ _ h1 o1 hg2 s) _ s
theorem doT_low {α : Type} {r : Nat} {of : List Nat} {cl : Nat → List α → Option Nat} {ok : List α → Prop} {rec : SR → List α → SR} (hr : RecSi r of cl ok rec) (g : Nat) (q : Core × List α × List α) (hq : CoreOk q.1) (hc : cleanT of g q.1 = true) (h1 : cl (g ||| labL of q.1.parts 0) q.2.1 = none) (h2 : cl (g ||| labL of q.1.parts 0) q.2.2 = none) (o1 : ok q.2.1) (o2 : ok q.2.2) (s t : SR) (ls : s.1.length = 26) (lt : t.1.length = 26) (h : SiInv r of s t) : SiInv r of (doT rec s q) (doT rec t q) := by
 by_cases hg : goesB g r = false
 ·exact h.both (doT_high hr g q hc h1 h2 o1 o2 hg s) (doT_high hr g q hc h1 h2 o1 o2 hg t)
 rw [Bool.not_eq_false] at hg
 rcases h with h | ⟨e1, e2, e3⟩
 ·exact SiInv.grow h (doT_grow hr.grow s q) (doT_grow hr.grow t q)
 have hv : goesB (labL of q.1.parts 0) r = true → valueV s.1 q.1.parts = valueV t.1 q.1.parts := fun hl => value_same e3 hq.parts hl
 have hinv : SiInv r of s t := .inr ⟨e1, e2, e3⟩
 unfold cleanT at hc
 unfold doT
 by_cases k0 : q.1.kind = 0
 ·rw [if_pos k0] at hc
  rw [if_pos k0, if_pos k0]
  refine .inr ⟨e1, e2, ?_⟩
  cases hn : goesB (of.getD q.1.name.toNat 0) r
  ·intro i hi hl
   have a := low_set_high (u := s.1) (v := valueV s.1 q.1.parts) hn i hi hl
   have b := low_set_high (u := t.1) (v := valueV t.1 q.1.parts) hn i hi hl
   exact a.trans ((e3 i hi hl).trans b.symm)
  ·rw [hv (goes_or (goes_trans hc hn)).2]
   exact low_set_same ls lt e3
 rw [if_neg k0] at hc
 rw [if_neg k0, if_neg k0]
 by_cases k1 : q.1.kind = 1
 ·rw [if_pos k1, Bool.and_eq_true] at hc
  rw [if_pos k1, if_pos k1]
  cases hL : goesB q.1.label r
  ·have hn := high_of hc.2 hL
   refine .inr ⟨?_, ?_, ?_⟩
   ·simp only [seenN_app, seen_one, hL, Bool.and_false, Bool.false_eq_true, if_false, List.append_nil]; exact e1
   ·rw [toldN_app, toldN_app, told_one, told_one]; simpa using e2
   ·intro i hi hl
    have a := low_set_high (u := s.1) (v := valueV s.1 q.1.parts) hn i hi hl
    have b := low_set_high (u := t.1) (v := valueV t.1 q.1.parts) hn i hi hl
    exact a.trans ((e3 i hi hl).trans b.symm)
  ·by_cases hvv : valueV s.1 q.1.parts = valueV t.1 q.1.parts
   ·rw [hvv]
    refine .inr ⟨?_, ?_, low_set_same ls lt e3⟩
    ·rw [seenN_app, seenN_app, e1]
    ·rw [toldN_app, toldN_app, e2]
   ·left
    simp only [seenN_app, seen_one, hL, e1]
    exact ⟨seenN r t.2, _, _, [], [], rfl, rfl, fun e => hvv (Nt.mk.inj e).2.2.2⟩
 rw [if_neg k1] at hc
 rw [if_neg k1, if_neg k1]
 by_cases k2 : q.1.kind = 2
 ·rw [if_pos k2] at hc
  rw [if_pos k2, if_pos k2]
  cases hL : goesB q.1.label r
  ·refine .inr ⟨?_, ?_, e3⟩
   ·rw [seenN_app, seenN_app, seen_one, seen_one]; simpa using e1
   ·simp only [toldN_app, told_one, hL, Bool.and_false, Bool.false_eq_true, if_false, List.append_nil]; exact e2
  ·rw [hv (goes_or (goes_trans hc hL)).2]
   refine .inr ⟨?_, ?_, e3⟩
   ·rw [seenN_app, seenN_app, e1]
   ·rw [toldN_app, toldN_app, e2]
 rw [if_neg k2, if_neg k2]
 by_cases k3 : q.1.kind = 3
 ·rw [if_pos k3, if_pos k3]
  cases hl : goesB (labL of q.1.parts 0) r
  ·have hg2 : goesB (g ||| labL of q.1.parts 0) r = false := by rw [Nat.or_comm]; exact or_high hl
   have key : ∀ u : SR, SiSame r of u (if (valueV u.1 q.1.parts).fault ≠ 0 then u else if (valueV u.1 q.1.parts).num ≠ 0 then rec u q.2.1 else rec u q.2.2) := by
    intro u
    split
    ·exact SiSame.refl _ _ _
    split
    ·exact hr.high _ _ h1 o1 hg2 u
    ·exact hr.high _ _ h2 o2 hg2 u
   exact hinv.both (key s) (key t)
  ·rw [hv hl]
   split
   ·exact hinv
   split
   ·exact hr.low _ _ h1 o1 s t ls lt hinv
   ·exact hr.low _ _ h2 o2 s t ls lt hinv
 rw [if_neg k3, if_neg k3]
 exact rep_low (fun s => hr.len _ s) (fun s t a b k => hr.low _ _ h1 o1 s t a b k) _ s t ls lt hinv
theorem cleanL_cons {α : Type} {rec : Nat → List α → Option Nat} {of : List Nat} {g : Nat} {q : Core × List α × List α} {r : List (Core × List α × List α)} (h : cleanL rec of g (q :: r) = none) : cleanT of g q.1 = true ∧ rec (g ||| labL of q.1.parts 0) q.2.1 = none ∧ rec (g ||| labL of q.1.parts 0) q.2.2 = none ∧ cleanL rec of g r = none := by
 unfold cleanL at h
 cases hc : cleanT of g q.1
 ·rw [hc] at h; simp at h
 ·rw [hc, if_pos rfl] at h
  cases h1 : rec (g ||| labL of q.1.parts 0) q.2.1 with
  | some p => rw [h1] at h; cases h
  | none =>
   rw [h1] at h
   simp only at h
   cases h2 : rec (g ||| labL of q.1.parts 0) q.2.2 with
   | some p => rw [h2] at h; cases h
   | none => rw [h2] at h; exact ⟨rfl, rfl, rfl, h⟩
theorem doL_si {α : Type} {r : Nat} {of : List Nat} {cl : Nat → List α → Option Nat} {ok : List α → Prop} {rec : SR → List α → SR} (hr : RecSi r of cl ok rec) : ∀ (l : List (Core × List α × List α)) (g : Nat), cleanL cl of g l = none → (∀ q ∈ l, CoreOk q.1 ∧ ok q.2.1 ∧ ok q.2.2) →
  (∀ s t : SR, s.1.length = 26 → t.1.length = 26 → SiInv r of s t → SiInv r of (doL rec s l) (doL rec t l)) ∧ (goesB g r = false → ∀ s, SiSame r of s (doL rec s l))
 | [], g, _, _ => ⟨fun s t _ _ h => h, fun _ s => SiSame.refl _ _ _⟩
 | q :: l, g, hc, ho => by
  obtain ⟨c1, c2, c3, c4⟩ := cleanL_cons hc
  obtain ⟨o1, o2, o3⟩ := ho q (by simp)
  obtain ⟨i1, i2⟩ := doL_si hr l g c4 (fun x hx => ho x (by simp [hx]))
  refine ⟨fun s t ls lt h => ?_, fun hg s => ?_⟩
  ·exact i1 _ _ ((doT_len hr.len s q).trans ls) ((doT_len hr.len t q).trans lt) (doT_low hr g q o1 c1 c2 c3 o2 o3 s t ls lt h)
  ·exact (doT_high hr g q c1 c2 c3 o2 o3 hg s).trans (i2 hg _)
theorem doL_grow {α : Type} {rec : SR → List α → SR} (hg : ∀ l s, ∃ A, (rec s l).2 = s.2 ++ A) : ∀ (l : List (Core × List α × List α)) (s : SR), ∃ A, (doL rec s l).2 = s.2 ++ A
 | [], s => ⟨[], by simp [doL]⟩
 | q :: l, s => by
  obtain ⟨A, e⟩ := doT_grow hg s q
  obtain ⟨B, k⟩ := doL_grow hg l (doT rec s q)
  exact ⟨A ++ B, by show (doL rec (doT rec s q) l).2 = _; rw [k, e, List.append_assoc]⟩
theorem doL_len {α : Type} {rec : SR → List α → SR} (hl : ∀ l s, (rec s l).1.length = s.1.length) : ∀ (l : List (Core × List α × List α)) (s : SR), (doL rec s l).1.length = s.1.length
 | [], s => rfl
 | q :: l, s => (doL_len hl l (doT rec s q)).trans (doT_len hl s q)
theorem doF_si (r : Nat) (of : List Nat) : ∀ n : Nat, RecSi r of (cleanF of n) (TreeOk n) (doF n)
 | 0 => ⟨fun _ _ _ _ s t _ _ h => h, fun _ _ _ _ _ s => SiSame.refl _ _ _, fun _ s => ⟨[], by simp [doF]⟩, fun _ s => rfl⟩
 | n + 1 => by
  have ih := doF_si r of n
  refine ⟨fun g l hc ho => ?_, fun g l hc ho => ?_, fun l s => doL_grow ih.grow l s, fun l s => doL_len ih.len l s⟩
  ·exact (doL_si ih l g hc (fun q hq => ho.2 q hq)).1
  ·exact (doL_si ih l g hc (fun q hq => ho.2 q hq)).2
end Go.Proofs.YtdgmoiflahoihabGreatDoor
