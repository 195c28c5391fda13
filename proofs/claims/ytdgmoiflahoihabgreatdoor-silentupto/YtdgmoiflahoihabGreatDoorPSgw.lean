import Derived.Test.YtdgmoiflahoihabGreatDoorKText2w

namespace Go.Proofs.YtdgmoiflahoihabGreatDoor
set_option linter.unusedSimpArgs false
set_option linter.unusedVariables false
def posL : List UInt8 → Nat → Nat → Nat
 | [], k, _ => k
 | c :: r, k, i => if blankB c then posL r (k + 1) i else (match i with | 0 => k | i + 1 => posL r (k + 1) i)
theorem skip_posL : ∀ (l : List UInt8) (k : Nat), skipL l k = posL l k 0
 | [], k => rfl
 | c :: r, k => by
  unfold skipL posL
  split
  ·exact skip_posL r (k + 1)
  ·rfl
theorem posL_ge : ∀ (l : List UInt8) (k i : Nat), k ≤ posL l k i
 | [], k, i => Nat.le_refl _
 | c :: r, k, i => by
  unfold posL
  split
  ·have := posL_ge r (k + 1) i; omega
  ·cases i with
   | zero => exact Nat.le_refl _
   | succ i => have := posL_ge r (k + 1) i; simp only; omega
theorem posL_end : ∀ (l : List UInt8) (k i : Nat), (keptL l).length ≤ i → posL l k i = k + l.length
 | [], k, i, _ => rfl
 | c :: r, k, i, h => by
  unfold posL
  unfold keptL at h
  split
  ·rename_i hb
   rw [if_pos hb] at h
   rw [posL_end r (k + 1) i h]; simp; omega
  ·rename_i hb
   rw [if_neg hb] at h
   cases i with
   | zero => simp at h
   | succ i => simp only; rw [posL_end r (k + 1) i (by simpa using h)]; simp; omega
theorem posL_facts : ∀ (l : List UInt8) (k i : Nat), i < (keptL l).length →
  posL l k i < k + l.length ∧ l[posL l k i - k]? = (keptL l)[i]? ∧ skipL (l.drop (posL l k i - k + 1)) (posL l k i + 1) = posL l k (i + 1) ∧ (atL l k)[i]? = some (posL l k i : Int)
 | [], k, i, h => by cases h
 | c :: r, k, i, h => by
  have hge := posL_ge r (k + 1)
  by_cases hb : blankB c = true
  ·have e1 : keptL (c :: r) = keptL r := by simp [keptL, hb]
   have e2 : ∀ j, posL (c :: r) k j = posL r (k + 1) j := by intro j; simp [posL, hb]
   have e3 : atL (c :: r) k = atL r (k + 1) := by simp [atL, hb]
   rw [e1] at h ⊢
   rw [e2, e2, e3]
   obtain ⟨h1, h2, h3, h4⟩ := posL_facts r (k + 1) i h
   have hg := hge i
   refine ⟨by simp; omega, ?_, ?_, h4⟩
   ·rw [show posL r (k + 1) i - k = (posL r (k + 1) i - (k + 1)) + 1 by omega]; simpa using h2
   ·rw [show posL r (k + 1) i - k = (posL r (k + 1) i - (k + 1)) + 1 by omega]; simpa using h3
  ·have hb' : blankB c = false := by simpa using hb
   have e1 : keptL (c :: r) = c :: keptL r := by simp [keptL, hb']
   have e3 : atL (c :: r) k = (k : Int) :: atL r (k + 1) := by simp [atL, hb']
   have e4 : ∀ j, posL (c :: r) k (j + 1) = posL r (k + 1) j := by intro j; simp [posL, hb']
   have e5 : posL (c :: r) k 0 = k := by simp [posL, hb']
   rw [e1] at h ⊢
   rw [e3]
   cases i with
   | zero =>
    rw [e5, e4]
    refine ⟨by simp, by simp, ?_, by simp⟩
    simpa using skip_posL r (k + 1)
   | succ i =>
    rw [e4, e4]
    obtain ⟨h1, h2, h3, h4⟩ := posL_facts r (k + 1) i (by simpa using h)
    have hg := hge i
    refine ⟨by simp; omega, ?_, ?_, by simpa using h4⟩
    ·rw [show posL r (k + 1) i - k = (posL r (k + 1) i - (k + 1)) + 1 by omega]; simpa using h2
    ·rw [show posL r (k + 1) i - k = (posL r (k + 1) i - (k + 1)) + 1 by omega]; simpa using h3
def posI (t : List UInt8) (i : Nat) : Nat := posL t 0 i
theorem posI_end {t : List UInt8} {i : Nat} (h : (keptL t).length ≤ i) : posI t i = t.length := by
 unfold posI; rw [posL_end t 0 i h]; omega
structure AtI (t : List UInt8) (r : Rd) (i : Nat) : Prop where
 pos : r.pos = posI t i
 le : i ≤ (keptL t).length
def inR (c : Option UInt8) (low high : UInt8) : Bool := match c with | none => false | some b => decide (low ≤ b) && decide (b ≤ high)
theorem sees_at {t : List UInt8} {r : Rd} {i : Nat} (h : AtI t r i) (a b : UInt8) : r.seesOne t a b = (!r.bad && inR (keptL t)[i]? a b) := by
 unfold Rd.seesOne inR
 by_cases hi : i < (keptL t).length
 ·have := (posL_facts t 0 i hi).2.1
  rw [Nat.sub_zero] at this
  rw [h.pos]
  unfold posI
  rw [this]
  cases (keptL t)[i]? <;> rfl
 ·rw [h.pos, posI_end (by omega), List.getElem?_eq_none (Nat.le_refl _), List.getElem?_eq_none (by omega)]
theorem take_at {t : List UInt8} {r : Rd} {i : Nat} (h : AtI t r i) {a b : UInt8} (hs : r.seesOne t a b = true) :
  AtI t (r.takeOne t a b).1 (i + 1) ∧ (r.takeOne t a b).1.bad = false ∧ (r.takeOne t a b).1.depth = r.depth ∧ ∃ c, (keptL t)[i]? = some c ∧ a ≤ c ∧ c ≤ b ∧ (r.takeOne t a b).2 = (c.toNat : Int) - (a.toNat : Int) := by
 have hs2 := hs
 rw [sees_at h] at hs2
 simp only [Bool.and_eq_true, Bool.not_eq_true'] at hs2
 obtain ⟨hb, hr⟩ := hs2
 cases hc : (keptL t)[i]? with
 | none => rw [hc] at hr; cases hr
 | some c =>
 rw [hc] at hr
 simp [inR] at hr
 have hi := (List.getElem?_eq_some_iff.mp hc).1
 obtain ⟨f1, f2, f3, _⟩ := posL_facts t 0 i hi
 rw [Nat.sub_zero] at f2 f3
 have hpos : r.pos = posL t 0 i := h.pos
 unfold Rd.takeOne
 rw [if_pos hs]
 refine ⟨⟨?_, by omega⟩, hb, rfl, c, rfl, hr.1, hr.2, ?_⟩
 ·show skipL (t.drop (r.pos + 1)) (r.pos + 1) = posI t (i + 1)
  rw [hpos]; exact f3
 ·have : t.getD r.pos 0 = c := by
   rw [List.getD_eq_getElem?_getD, hpos, f2, hc]; rfl
  rw [this]
theorem fail_at {t : List UInt8} {r : Rd} {i : Nat} (h : AtI t r i) {a b : UInt8} (hs : r.seesOne t a b = false) : (r.takeOne t a b).1 = { r with bad := true } ∧ (r.takeOne t a b).2 = 0 := by
 unfold Rd.takeOne
 rw [if_neg (by rw [hs]; decide)]
 exact ⟨rfl, rfl⟩
theorem first_at (t : List UInt8) : AtI t (Rd.skip t Rd.first) 0 := ⟨by show skipL (t.drop 0) 0 = _; rw [List.drop_zero]; exact skip_posL t 0, Nat.zero_le _⟩
theorem at_place {t : List UInt8} {i : Nat} (h : i < (keptL t).length) : (atL t 0)[i]? = some (posI t i : Int) := (posL_facts t 0 i h).2.2.2
end Go.Proofs.YtdgmoiflahoihabGreatDoor
namespace Go.Proofs.YtdgmoiflahoihabGreatDoor
set_option linter.unusedSimpArgs false
set_option linter.unusedVariables false
def Stp1 (C : List UInt8) (i : Nat) (f g : Fm) : Prop := ∃ c, C[i]? = some c ∧ f.next (c.toNat : Int) = (g, true)
def GoC (C : List UInt8) (i : Nat) (f : Fm) (j : Nat) (g : Fm) : Prop := ∃ n, i + n = j ∧ ∃ fs : Nat → Fm, fs 0 = f ∧ fs n = g ∧ ∀ k, k < n → Stp1 C (i + k) (fs k) (fs (k + 1))
theorem GoC.refl (C : List UInt8) (i : Nat) (f : Fm) : GoC C i f i f := ⟨0, rfl, fun _ => f, rfl, rfl, fun k h => by omega⟩
theorem GoC.one {C : List UInt8} {i : Nat} {f g : Fm} (h : Stp1 C i f g) : GoC C i f (i + 1) g :=
 ⟨1, rfl, fun k => if k = 0 then f else g, rfl, rfl, fun k hk => by
  have : k = 0 := by omega
  subst this
  exact h⟩
theorem GoC.trans {C : List UInt8} {i j k : Nat} {f g h : Fm} (a : GoC C i f j g) (b : GoC C j g k h) : GoC C i f k h := by
 obtain ⟨n, hn, fs, h0, h1, hs⟩ := a
 obtain ⟨m, hm, gs, k0, k1, ks⟩ := b
 refine ⟨n + m, by omega, fun x => if x < n then fs x else gs (x - n), ?_, ?_, ?_⟩
 ·by_cases hz : 0 < n
  ·simp only [hz, if_true]; exact h0
  ·have : n = 0 := by omega
   subst this
   simp only [Nat.lt_irrefl, if_false]
   rw [← h0, h1, ← k0]
 ·by_cases hz : n + m < n
  ·omega
  ·simp only [hz, if_false]; rw [show n + m - n = m by omega]; exact k1
 ·intro x hx
  show Stp1 C (i + x) (if x < n then fs x else gs (x - n)) (if x + 1 < n then fs (x + 1) else gs (x + 1 - n))
  by_cases hz : x < n
  ·by_cases hz2 : x + 1 < n
   ·simp only [hz, hz2, if_true]; exact hs x hz
   ·have e : x + 1 = n := by omega
    rw [if_pos hz, if_neg (by omega), show x + 1 - n = 0 by omega, k0, ← h1, ← e]
    exact hs x hz
  ·rw [if_neg hz, if_neg (by omega)]
   have := ks (x - n) (by omega)
   rw [show j + (x - n) = i + x by omega] at this
   rw [show x + 1 - n = x - n + 1 by omega]
   exact this
theorem GoC.le {C : List UInt8} {i j : Nat} {f g : Fm} (a : GoC C i f j g) : i ≤ j := by obtain ⟨n, hn, _⟩ := a; omega
def StuckC (C : List UInt8) (j : Nat) (g : Fm) : Prop := match C[j]? with | some c => (g.next (c.toNat : Int)).2 = false | none => g.done = false
def placeC : List UInt8 → Fm → Nat → Option Nat
 | [], f, j => if f.done then none else some j
 | c :: r, f, j => if (f.next (c.toNat : Int)).2 then placeC r (f.next (c.toNat : Int)).1 (j + 1) else some j
theorem placeC_cons (c : UInt8) (r : List UInt8) (f : Fm) (j : Nat) : placeC (c :: r) f j = if (f.next (c.toNat : Int)).2 then placeC r (f.next (c.toNat : Int)).1 (j + 1) else some j := rfl
theorem placeC_shift : ∀ (l : List UInt8) (f : Fm) (j : Nat), placeC l f (j + 1) = (placeC l f j).map (· + 1)
 | [], f, j => by unfold placeC; split <;> rfl
 | c :: r, f, j => by
  unfold placeC
  split
  ·exact placeC_shift r _ (j + 1)
  ·rfl
theorem goC_place {t : List UInt8} : ∀ (l : List UInt8) (k : Nat) (f : Fm), placeR l f k = (match placeC (keptL l) f 0 with | none => -1 | some j => (posL l k j : Int))
 | [], k, f => by
  simp only [placeR, keptL, placeC]
  split <;> simp [posL]
 | c :: r, k, f => by
  by_cases hb : blankB c = true
  ·simp only [placeR, keptL, hb, if_true]
   rw [goC_place (t := t) r (k + 1) f]
   cases placeC (keptL r) f 0 with
   | none => rfl
   | some j => simp [posL, hb]
  ·have hb' : blankB c = false := by simpa using hb
   simp only [placeR, keptL, hb', Bool.false_eq_true, if_false, placeC]
   split
   ·rw [goC_place (t := t) r (k + 1) _, placeC_shift]
    cases placeC (keptL r) (f.next (c.toNat : Int)).1 0 with
    | none => rfl
    | some j => simp [posL, hb']
   ·simp [posL, hb']
theorem placeC_go {C : List UInt8} : ∀ (n i : Nat) (fs : Nat → Fm), (∀ k, k < n → Stp1 C (i + k) (fs k) (fs (k + 1))) → placeC (C.drop i) (fs 0) i = placeC (C.drop (i + n)) (fs n) (i + n)
 | 0, i, fs, _ => rfl
 | n + 1, i, fs, h => by
  obtain ⟨c, hc, hn⟩ := h 0 (by omega)
  obtain ⟨hl, he⟩ := List.getElem?_eq_some_iff.mp hc
  have hl' : i < C.length := by simpa using hl
  have he' : C[i] = c := by simpa using he
  rw [List.drop_eq_getElem_cons hl', he', placeC_cons, hn]
  simp only [if_true]
  have := placeC_go n (i + 1) (fun k => fs (k + 1)) (fun k hk => by have := h (k + 1) (by omega); rw [show i + (k + 1) = i + 1 + k by omega] at this; exact this)
  rw [this]
  rw [show i + 1 + n = i + (n + 1) by omega]
theorem stuck_place {t : List UInt8} {j : Nat} {g : Fm} (h : GoC (keptL t) 0 Fm.start j g) (hj : j ≤ (keptL t).length) (hs : StuckC (keptL t) j g) : placeOf t = (posI t j : Int) := by
 obtain ⟨n, hn, fs, h0, h1, hst⟩ := h
 have e := placeC_go n 0 fs hst
 rw [h0, h1] at e
 simp only [Nat.zero_add] at hn e
 subst hn
 rw [List.drop_zero] at e
 unfold placeOf
 rw [goC_place (t := t) t 0 Fm.start, e]
 have : placeC ((keptL t).drop n) g n = some n := by
  unfold StuckC at hs
  cases hc : (keptL t)[n]? with
  | none =>
   rw [hc] at hs
   rw [List.drop_of_length_le (by have := List.getElem?_eq_none_iff.mp hc; omega)]
   simp only at hs
   simp [placeC, hs]
  | some c =>
   rw [hc] at hs
   obtain ⟨hl, he⟩ := List.getElem?_eq_some_iff.mp hc
   rw [List.drop_eq_getElem_cons hl, he]
   simp only at hs
   simp [placeC, hs]
 rw [this]
 rfl
theorem done_place {t : List UInt8} {g : Fm} (h : GoC (keptL t) 0 Fm.start (keptL t).length g) (hd : g.done = true) : placeOf t = -1 := by
 obtain ⟨n, hn, fs, h0, h1, hst⟩ := h
 have e := placeC_go n 0 fs hst
 rw [h0, h1] at e
 simp only [Nat.zero_add] at hn e
 rw [List.drop_zero, hn] at e
 unfold placeOf
 rw [goC_place (t := t) t 0 Fm.start, e, List.drop_of_length_le (Nat.le_refl _)]
 simp [placeC, hd]
end Go.Proofs.YtdgmoiflahoihabGreatDoor
namespace Go.Proofs.YtdgmoiflahoihabGreatDoor
set_option linter.unusedSimpArgs false
set_option linter.unusedVariables false
def nmBits : List Pt → Nat
 | [] => 0
 | p :: r => (if p.op = 2 then 2 ^ p.num.toNat else 0) ||| nmBits r
theorem nmBits_app : ∀ (a b : List Pt), nmBits (a ++ b) = nmBits a ||| nmBits b
 | [], b => by simp [nmBits]
 | p :: r, b => by simp only [List.cons_append, nmBits, nmBits_app r b, Nat.or_assoc]
structure Sg (C : List UInt8) (i j : Nat) (P : List Pt) : Prop where
 le : i ≤ j
 hj : j ≤ C.length
 pass : ∀ n : Int, 1 ≤ n → shutR (C.drop i) n i = shutR (C.drop j) n j
 semi : semiR (C.drop i) i = semiR (C.drop j) j
 size : sizeL false (seg C i j) = P.length
 names : ∀ m, namesL (seg C i j) m = m ||| nmBits P
 ok : ∀ p ∈ P, PtOk p
theorem seg_app {C : List UInt8} {i j k : Nat} (h1 : i ≤ j) (h2 : j ≤ k) : seg C i k = seg C i j ++ seg C j k := by
 unfold seg
 rw [show C.drop j = (C.drop i).drop (j - i) by rw [List.drop_drop]; congr 1; omega, show k - i = (j - i) + (k - j) by omega, List.take_add]
theorem seg_one {C : List UInt8} {i : Nat} {c : UInt8} (h : C[i]? = some c) : seg C i (i + 1) = [c] := by
 obtain ⟨hl, he⟩ := List.getElem?_eq_some_iff.mp h
 rw [seg_cons (by omega) (by omega), he, seg_nil (Nat.le_refl _)]
theorem namesL_app : ∀ (a b : List UInt8) (m : Nat), namesL (a ++ b) m = namesL b (namesL a m)
 | [], b, m => rfl
 | c :: r, b, m => by simp only [List.cons_append, namesL]; exact namesL_app r b _
def lastD (d : Bool) : List UInt8 → Bool
 | [] => d
 | c :: r => lastD (dgB c) r
theorem sizeL_app : ∀ (a b : List UInt8) (d : Bool), sizeL d (a ++ b) = sizeL d a + sizeL (lastD d a) b
 | [], b, d => by simp [sizeL, lastD]
 | c :: r, b, d => by simp only [List.cons_append, sizeL, lastD, sizeL_app r b (dgB c)]; omega
theorem sizeL_flag {d : Bool} {c : UInt8} {r : List UInt8} (h : dgB c = false) : sizeL d (c :: r) = sizeL false (c :: r) := by simp [sizeL, h]
theorem lastD_app : ∀ (a b : List UInt8) (d : Bool), lastD d (a ++ b) = lastD (lastD d a) b
 | [], b, d => rfl
 | c :: r, b, d => by simp only [List.cons_append, lastD]; exact lastD_app r b _
theorem lastD_seg {C : List UInt8} {i j : Nat} {c : UInt8} (hi : i < j) (h : C[j - 1]? = some c) (hj : j ≤ C.length) : lastD false (seg C i j) = dgB c := by
 rw [seg_app (show i ≤ j - 1 by omega) (show j - 1 ≤ j by omega), lastD_app]
 have := seg_one h
 rw [show j - 1 + 1 = j by omega] at this
 rw [this]
 rfl
theorem Sg.cat {C : List UInt8} {i j k : Nat} {P Q R : List Pt} (a : Sg C i j P) (b : Sg C j k Q) (hl : R.length = P.length + Q.length) (hn : nmBits R = nmBits P ||| nmBits Q) (ho : ∀ p ∈ R, p ∈ P ∨ p ∈ Q)
  (hd : (∃ c, C[j]? = some c ∧ dgB c = false) ∨ (i < j → ∃ c, C[j - 1]? = some c ∧ dgB c = false)) : Sg C i k R := by
 refine ⟨Nat.le_trans a.le b.le, b.hj, fun n hn1 => (a.pass n hn1).trans (b.pass n hn1), a.semi.trans b.semi, ?_, ?_, fun p hp => (ho p hp).elim (a.ok p) (b.ok p)⟩
 ·rw [seg_app a.le b.le, sizeL_app, a.size, hl, ← b.size]
  congr 1
  have hsz := b.size
  rcases hd with ⟨c, hc, hdc⟩ | hd
  ·by_cases hjk : j < k
   ·obtain ⟨hjl, he⟩ := List.getElem?_eq_some_iff.mp hc
    rw [seg_cons hjk b.hj, he]
    exact sizeL_flag hdc
   ·rw [seg_nil (C := C) (show k ≤ j by omega)]; rfl
  ·by_cases hij : i < j
   ·obtain ⟨c, hc, hdc⟩ := hd hij
    rw [lastD_seg hij hc a.hj, hdc]
   ·rw [seg_nil (C := C) (show j ≤ i by omega)]; rfl
 ·intro m
  rw [seg_app a.le b.le, namesL_app, a.names, b.names, hn, Nat.or_assoc]
theorem Sg.nil {C : List UInt8} {i : Nat} (h : i ≤ C.length) : Sg C i i [] := by
 refine ⟨Nat.le_refl _, h, fun _ _ => rfl, rfl, ?_, fun m => ?_, fun p hp => by cases hp⟩
 ·rw [seg_nil (Nat.le_refl _)]; rfl
 ·rw [seg_nil (Nat.le_refl _)]; simp [namesL, nmBits]
theorem pass_one {C : List UInt8} {i : Nat} {c : UInt8} (h : C[i]? = some c) (hd : dl c = 0) (n : Int) (hn : 1 ≤ n) : shutR (C.drop i) n i = shutR (C.drop (i + 1)) n (i + 1) := by
 obtain ⟨hl, he⟩ := List.getElem?_eq_some_iff.mp h
 rw [shutR_cons hl, he, hd, if_neg (by omega), Int.add_zero]
theorem semi_one {C : List UInt8} {i : Nat} {c : UInt8} (h : C[i]? = some c) (hd : c ≠ 59) : semiR (C.drop i) i = semiR (C.drop (i + 1)) (i + 1) := by
 obtain ⟨hl, he⟩ := List.getElem?_eq_some_iff.mp h
 rw [List.drop_eq_getElem_cons hl, he]
 simp [semiR, hd]
theorem Sg.byte {C : List UInt8} {i : Nat} {c : UInt8} {p : Pt} (h : C[i]? = some c) (h0 : dl c = 0) (h1 : c ≠ 59) (h3 : nmB c = true → p.op = 2 ∧ p.num = (c.toNat : Int) - 97) (h4 : nmB c = false → p.op ≠ 2) : Sg C i (i + 1) [p] := by
 have hl := (List.getElem?_eq_some_iff.mp h).1
 have hc4 : c ≠ 40 ∧ c ≠ 41 := by
  constructor <;> (intro e; subst e; revert h0; decide)
 refine ⟨by omega, by omega, pass_one h h0, semi_one h h1, ?_, fun m => ?_, ?_⟩
 ·rw [seg_one h]; simp [sizeL, hc4.1, hc4.2]
 ·rw [seg_one h]
  cases hn : nmB c
  ·simp [namesL, hn, nmBits, h4 hn]
  ·obtain ⟨e1, e2⟩ := h3 hn
   have hn2 := hn
   simp [nmB] at hn2
   have : p.num.toNat = c.toNat - 97 := by omega
   simp [namesL, hn, nmBits, e1, this]
 ·intro q hq
  simp at hq
  subst hq
  intro e
  cases hn : nmB c
  ·exact absurd e (h4 hn)
  ·obtain ⟨_, e2⟩ := h3 hn
   simp [nmB] at hn
   omega
theorem dg_dl {c : UInt8} (h : dgB c = true) : dl c = 0 ∧ c ≠ 59 ∧ nmB c = false ∧ c ≠ 40 ∧ c ≠ 41 := by
 simp [dgB] at h
 have hne : ∀ k : UInt8, (k.toNat < 48 ∨ 57 < k.toNat) → c ≠ k := by intro k hk e; subst e; omega
 refine ⟨?_, hne 59 (by decide), by simp [nmB]; omega, hne 40 (by decide), hne 41 (by decide)⟩
 have h1 := hne 40 (by decide)
 have h2 := hne 123 (by decide)
 have h3 := hne 41 (by decide)
 have h4 := hne 125 (by decide)
 simp [dl, h1, h2, h3, h4]
theorem digits_size : ∀ (l : List UInt8), (∀ c ∈ l, dgB c = true) → sizeL true l = 0 ∧ ∀ m, namesL l m = m
 | [], _ => ⟨rfl, fun _ => rfl⟩
 | c :: r, h => by
  have hc := h c (by simp)
  obtain ⟨i1, i2⟩ := digits_size r (fun x hx => h x (by simp [hx]))
  have hd := dg_dl hc
  refine ⟨by simp [sizeL, hc, i1], fun m => by simp [namesL, hd.2.2.1, i2]⟩
theorem digits_pass {C : List UInt8} : ∀ (n i : Nat), (∀ k, k < n → ∃ c, C[i + k]? = some c ∧ dgB c = true) → (∀ m : Int, 1 ≤ m → shutR (C.drop i) m i = shutR (C.drop (i + n)) m (i + n)) ∧ semiR (C.drop i) i = semiR (C.drop (i + n)) (i + n)
 | 0, i, _ => ⟨fun _ _ => rfl, rfl⟩
 | n + 1, i, h => by
  obtain ⟨c, hc, hd⟩ := h 0 (by omega)
  have d := dg_dl hd
  obtain ⟨p, q⟩ := digits_pass n (i + 1) (fun k hk => by have := h (k + 1) (by omega); rwa [show i + (k + 1) = i + 1 + k by omega] at this)
  rw [show i + (n + 1) = i + 1 + n by omega]
  exact ⟨fun m hm => (pass_one hc d.1 m hm).trans (p m hm), (semi_one hc d.2.1).trans q⟩
theorem Sg.number {C : List UInt8} {i j : Nat} (hij : i < j) (hj : j ≤ C.length) (h : ∀ k, i ≤ k → k < j → ∃ c, C[k]? = some c ∧ dgB c = true) (v : Int) : Sg C i j [⟨1, v⟩] := by
 obtain ⟨p, q⟩ := digits_pass (C := C) (j - i) i (fun k hk => h (i + k) (by omega) (by omega))
 rw [show i + (j - i) = j by omega] at p q
 have hall : ∀ c ∈ seg C (i + 1) j, dgB c = true := by
  intro c hc
  unfold seg at hc
  obtain ⟨k, hk, rfl⟩ := List.getElem_of_mem hc
  simp at hk
  obtain ⟨d, hd1, hd2⟩ := h (i + 1 + k) (by omega) (by omega)
  simp only [List.getElem_take, List.getElem_drop]
  have : C[i + 1 + k]? = some C[i + 1 + k] := List.getElem?_eq_getElem (by omega)
  rw [hd1] at this
  cases this
  exact hd2
 obtain ⟨s1, s2⟩ := digits_size _ hall
 obtain ⟨c, hc, hd⟩ := h i (Nat.le_refl _) hij
 have dd := dg_dl hd
 obtain ⟨hl, he⟩ := List.getElem?_eq_some_iff.mp hc
 refine ⟨by omega, hj, p, q, ?_, fun m => ?_, fun x hx => by simp at hx; subst hx; intro e; simp at e⟩
 ·rw [seg_cons hij hj, he]
  simp [sizeL, hd, s1, dd.2.2.2.1, dd.2.2.2.2]
 ·rw [seg_cons hij hj, he]
  simp [namesL, dd.2.2.1, s2, nmBits]
theorem Sg.pair {C : List UInt8} {i j : Nat} {P : List Pt} (a : Sg C (i + 1) j P) (ho : C[i]? = some 40) (hc : C[j]? = some 41) (hd : dgB 40 = false) : Sg C i (j + 1) P := by
 obtain ⟨hl, he⟩ := List.getElem?_eq_some_iff.mp ho
 obtain ⟨hl2, he2⟩ := List.getElem?_eq_some_iff.mp hc
 have hle := a.le
 refine ⟨by omega, by omega, fun n hn => ?_, ?_, ?_, fun m => ?_, a.ok⟩
 ·rw [shutR_cons hl, he, show dl 40 = 1 by decide, if_neg (by omega), a.pass (n + 1) (by omega), shutR_cons hl2, he2, show dl 41 = -1 by decide, if_neg (by omega), show n + 1 + -1 = n by omega]
 ·rw [semi_one ho (by decide), a.semi, semi_one hc (by decide)]
 ·rw [seg_app (show i ≤ i + 1 by omega) (show i + 1 ≤ j + 1 by omega), seg_one ho, seg_app hle (show j ≤ j + 1 by omega), seg_one hc, sizeL_app, sizeL_app]
  simp only [lastD, hd]
  rw [a.size]
  simp [sizeL]
 ·rw [seg_app (show i ≤ i + 1 by omega) (show i + 1 ≤ j + 1 by omega), seg_one ho, seg_app hle (show j ≤ j + 1 by omega), seg_one hc, namesL_app, namesL_app, a.names]
  simp [namesL, nmB]
end Go.Proofs.YtdgmoiflahoihabGreatDoor
namespace Go.Proofs.YtdgmoiflahoihabGreatDoor
set_option linter.unusedSimpArgs false
set_option linter.unusedVariables false
theorem inR_one (c k : UInt8) : inR (some c) k k = decide (c = k) := by
 simp only [inR, UInt8.le_iff_toNat_le]
 rw [Bool.eq_iff_iff]
 simp
 constructor
 ·intro h; exact UInt8.toNat_inj.mp (by omega)
 ·intro h; subst h; omega
theorem inR_dg (c : UInt8) : inR (some c) 48 57 = dgB c := by simp [inR, dgB, UInt8.le_iff_toNat_le]
theorem inR_nm (c : UInt8) : inR (some c) 97 122 = nmB c := by simp [inR, nmB, UInt8.le_iff_toNat_le]
theorem isDg_u (c : UInt8) : isDg (c.toNat : Int) = dgB c := by
 rw [Bool.eq_iff_iff]; simp [isDg, dgB]; omega
theorem isNm_u (c : UInt8) : isNm (c.toNat : Int) = nmB c := by
 rw [Bool.eq_iff_iff]; simp [isNm, nmB]; omega
theorem isSc_u (c : UInt8) : isSc (c.toNat : Int) = scB c := by
 rw [Bool.eq_iff_iff]; simp [isSc, scB]; omega
theorem u8_nat {c k : UInt8} (h : c ≠ k) : c.toNat ≠ k.toNat := fun e => h (UInt8.toNat_inj.mp e)
theorem unit_dg {f : Fm} {c : UInt8} (h : dgB c = true) : f.unit (c.toNat : Int) = ({ f with digits := 1, st := 11 }, true) := by
 unfold Fm.unit Fm.to
 rw [isDg_u, if_pos h]
theorem dg_not_nm {c : UInt8} (h : dgB c = true) : nmB c = false := (dg_dl h).2.2.1
theorem unit_nm {f : Fm} {c : UInt8} (h : nmB c = true) : f.unit (c.toNat : Int) = ({ f with st := 12 }, true) := by
 have hd : dgB c = false := by
  cases hd : dgB c with
  | false => rfl
  | true => rw [dg_not_nm hd] at h; cases h
 unfold Fm.unit Fm.to
 rw [isDg_u, isNm_u, if_neg (by rw [hd]; decide), if_pos h]
theorem unit_minus (f : Fm) : f.unit ((45 : UInt8).toNat : Int) = ({ f with st := 10 }, true) := by
 simp [Fm.unit, Fm.to, isDg, isNm]
theorem unit_open {f : Fm} (h : f.op.length < 8) : f.unit ((40 : UInt8).toNat : Int) = ({ f with op := (if f.related then 69 else 101) :: f.op, related := false, st := 10 }, true) := by
 simp [Fm.unit, Fm.to, isDg, isNm, h]
theorem unit_full {f : Fm} (h : ¬ f.op.length < 8) : (f.unit ((40 : UInt8).toNat : Int)).2 = false := by
 simp [Fm.unit, Fm.to, isDg, isNm, h]
theorem unit_no {f : Fm} {c : UInt8} (h1 : dgB c = false) (h2 : nmB c = false) (h3 : c ≠ 45) (h4 : c ≠ 40) : (f.unit (c.toNat : Int)).2 = false := by
 have k3 := u8_nat h3
 have k4 := u8_nat h4
 unfold Fm.unit Fm.to
 rw [isDg_u, isNm_u, if_neg (by rw [h1]; decide), if_neg (by rw [h2]; decide), if_neg (by simp at k3; omega), if_neg (by simp at k4; omega)]
def opB (c : UInt8) : Bool := c == 43 || c == 45 || c == 42 || c == 47 || c == 37
theorem after_op {f : Fm} {c : UInt8} (h : opB c = true) : f.after (c.toNat : Int) = ({ f with st := 10 }, true) := by
 simp [opB] at h
 rcases h with (((rfl | rfl) | rfl) | rfl) | rfl <;> simp [Fm.after, Fm.to]
theorem after_rel {f : Fm} {c : UInt8} (h : c = 60 ∨ c = 61) (hr : f.related = false) : f.after (c.toNat : Int) = ({ f with related := true, st := 10 }, true) := by
 rcases h with rfl | rfl <;> simp [Fm.after, Fm.to, hr]
theorem after_semi {f : Fm} (h : f.paren = false) : f.after ((59 : UInt8).toNat : Int) = ({ f with st := 0 }, true) := by
 simp [Fm.after, Fm.to, h]
theorem after_semi_no {f : Fm} (h : f.paren = true) : (f.after ((59 : UInt8).toNat : Int)).2 = false := by
 simp [Fm.after, Fm.to, h]
theorem after_close_c {f : Fm} (h : f.top = 99) : f.after ((41 : UInt8).toNat : Int) = ({ f with op := f.op.tail, related := false, block := [49], st := 14 }, true) := by
 simp [Fm.after, Fm.to, h]
theorem after_close_e {f : Fm} (h : f.top = 101) : f.after ((41 : UInt8).toNat : Int) = ({ f with op := f.op.tail, related := false, st := 12 }, true) := by
 simp [Fm.after, Fm.to, h]
theorem after_close_E {f : Fm} (h : f.top = 69) : f.after ((41 : UInt8).toNat : Int) = ({ f with op := f.op.tail, related := true, st := 12 }, true) := by
 simp [Fm.after, Fm.to, h]
theorem after_close_no {f : Fm} (h : f.paren = false) : (f.after ((41 : UInt8).toNat : Int)).2 = false := by
 simp [Fm.paren] at h
 simp [Fm.after, Fm.to, h]
theorem after_no {f : Fm} {c : UInt8} (h1 : opB c = false) (h2 : (c = 60 ∨ c = 61) → f.related = true) (h3 : c ≠ 59) (h4 : c ≠ 41) : (f.after (c.toNat : Int)).2 = false := by
 simp [opB] at h1
 have a1 := u8_nat h1.1.1.1.1
 have a2 := u8_nat h1.1.1.1.2
 have a3 := u8_nat h1.1.1.2
 have a4 := u8_nat h1.1.2
 have a5 := u8_nat h1.2
 have k3 := u8_nat h3
 have k4 := u8_nat h4
 simp at a1 a2 a3 a4 a5 k3 k4
 unfold Fm.after Fm.to
 rw [if_neg (by omega)]
 rw [if_neg (by
  rintro ⟨h, hr⟩
  have : c = 60 ∨ c = 61 := by
   rcases h with h | h
   ·exact .inl (UInt8.toNat_inj.mp (by simp; omega))
   ·exact .inr (UInt8.toNat_inj.mp (by simp; omega))
  rw [h2 this] at hr
  cases hr)]
 rw [if_neg (by omega), if_neg (by omega), if_neg (by omega), if_neg (by omega)]
theorem after_dg {f : Fm} {c : UInt8} (h : dgB c = true) : (f.after (c.toNat : Int)).2 = false := by
 simp [dgB] at h
 unfold Fm.after Fm.to
 rw [if_neg (by omega), if_neg (by omega), if_neg (by omega), if_neg (by omega), if_neg (by omega), if_neg (by omega)]
theorem next10 {f : Fm} (h : f.st = 10) (c : Int) : f.next c = f.unit c := by
 unfold Fm.next
 simp [h]
theorem next12 {f : Fm} (h : f.st = 12) (c : Int) : f.next c = f.after c := by
 unfold Fm.next
 simp [h]
theorem next11_dg {f : Fm} (h : f.st = 11) {c : UInt8} (hd : dgB c = true) : f.next (c.toNat : Int) = ({ f with digits := f.digits + 1 }, decide (f.digits + 1 ≤ 18)) := by
 unfold Fm.next
 rw [isDg_u]
 simp [h, hd]
theorem next11_no {f : Fm} (h : f.st = 11) {c : UInt8} (hd : dgB c = false) : f.next (c.toNat : Int) = f.after (c.toNat : Int) := by
 unfold Fm.next
 rw [isDg_u]
 simp [h, hd]
end Go.Proofs.YtdgmoiflahoihabGreatDoor
