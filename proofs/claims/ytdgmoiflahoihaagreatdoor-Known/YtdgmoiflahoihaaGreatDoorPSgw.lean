import Derived.Test.YtdgmoiflahoihaaGreatDoorKText2w

namespace Go.Proofs.YtdgmoiflahoihaaGreatDoor
set_option linter.unusedSimpArgs false
set_option linter.unusedVariables false
def posL : List UInt8 → Nat → Nat → Nat
 | [], k, _ => k
 | c :: r, k, i => if blankB c then posL r (k + 1) i else (match i with | 0 => k | i + 1 => posL r (k + 1) i)
theorem skip_posL : ∀ (l : List UInt8) (k : Nat), skipL l k = posL l k 0
 | [], k => rfl
 | c :: r, k => by
  unfold skipL posL
  split
  ·exact skip_posL r (k + 1)
  ·rfl
theorem posL_ge : ∀ (l : List UInt8) (k i : Nat), k ≤ posL l k i
 | [], k, i => Nat.le_refl _
 | c :: r, k, i => by
  unfold posL
  split
  ·have := posL_ge r (k + 1) i; omega
  ·cases i with
   | zero => exact Nat.le_refl _
   | succ i => have := posL_ge r (k + 1) i; simp only; omega
theorem posL_end : ∀ (l : List UInt8) (k i : Nat), (keptL l).length ≤ i → posL l k i = k + l.length
 | [], k, i, _ => rfl
 | c :: r, k, i, h => by
  unfold posL
  unfold keptL at h
  split
  ·rename_i hb
   rw [if_pos hb] at h
   rw [posL_end r (k + 1) i h]; simp; omega
  ·rename_i hb
   rw [if_neg hb] at h
   cases i with
   | zero => simp at h
   | succ i => simp only; rw [posL_end r (k + 1) i (by simpa using h)]; simp; omega
theorem posL_facts : ∀ (l : List UInt8) (k i : Nat), i < (keptL l).length →
  posL l k i < k + l.length ∧ l[posL l k i - k]? = (keptL l)[i]? ∧ skipL (l.drop (posL l k i - k + 1)) (posL l k i + 1) = posL l k (i + 1) ∧ (atL l k)[i]? = some (posL l k i : Int)
 | [], k, i, h => by cases h
 | c :: r, k, i, h => by
  have hge := posL_ge r (k + 1)
  by_cases hb : blankB c = true
  ·have e1 : keptL (c :: r) = keptL r := by simp [keptL, hb]
   have e2 : ∀ j, posL (c :: r) k j = posL r (k + 1) j := by intro j; simp [posL, hb]
   have e3 : atL (c :: r) k = atL r (k + 1) := by simp [atL, hb]
   rw [e1] at h ⊢
   rw [e2, e2, e3]
   obtain ⟨h1, h2, h3, h4⟩ := posL_facts r (k + 1) i h
   have hg := hge i
   refine ⟨by simp; omega, ?_, ?_, h4⟩
   ·rw [show posL r (k + 1) i - k = (posL r (k + 1) i - (k + 1)) + 1 by omega]; simpa using h2
   ·rw [show posL r (k + 1) i - k = (posL r (k + 1) i - (k + 1)) + 1 by omega]; simpa using h3
  ·have hb' : blankB c = false := by simpa using hb
   have e1 : keptL (c :: r) = c :: keptL r := by simp [keptL, hb']
   have e3 : atL (c :: r) k = (k : Int) :: atL r (k + 1) := by simp [atL, hb']
   have e4 : ∀ j, posL (c :: r) k (j + 1) = posL r (k + 1) j := by intro j; simp [posL, hb']
   have e5 : posL (c :: r) k 0 = k := by simp [posL, hb']
   rw [e1] at h ⊢
   rw [e3]
   cases i with
   | zero =>
    rw [e5, e4]
    refine ⟨by simp, by simp, ?_, by simp⟩
    simpa using skip_posL r (k + 1)
   | succ i =>
    rw [e4, e4]
    obtain ⟨h1, h2, h3, h4⟩ := posL_facts r (k + 1) i (by simpa using h)
    have hg := hge i
    refine ⟨by simp; omega, ?_, ?_, by simpa using h4⟩
    ·rw [show posL r (k + 1) i - k = (posL r (k + 1) i - (k + 1)) + 1 by omega]; simpa using h2
    ·rw [show posL r (k + 1) i - k = (posL r (k + 1) i - (k + 1)) + 1 by omega]; simpa using h3
def posI (t : List UInt8) (i : Nat) : Nat := posL t 0 i
theorem posI_end {t : List UInt8} {i : Nat} (h : (keptL t).length ≤ i) : posI t i = t.length := by
 unfold posI; rw [posL_end t 0 i h]; omega
structure AtI (t : List UInt8) (r : Rd) (i : Nat) : Prop where
 pos : r.pos = posI t i
 le : i ≤ (keptL t).length
def inR (c : Option UInt8) (low high : UInt8) : Bool := match c with | none => false | some b => decide (low ≤ b) && decide (b ≤ high)
theorem sees_at {t : List UInt8} {r : Rd} {i : Nat} (h : AtI t r i) (a b : UInt8) : r.seesOne t a b = (!r.bad && inR (keptL t)[i]? a b) := by
 unfold Rd.seesOne inR
 by_cases hi : i < (keptL t).length
 ·have := (posL_facts t 0 i hi).2.1
  rw [Nat.sub_zero] at this
  rw [h.pos]
  unfold posI
  rw [this]
  cases (keptL t)[i]? <;> rfl
 ·rw [h.pos, posI_end (by omega), List.getElem?_eq_none (Nat.le_refl _), List.getElem?_eq_none (by omega)]
theorem take_at {t : List UInt8} {r : Rd} {i : Nat} (h : AtI t r i) {a b : UInt8} (hs : r.seesOne t a b = true) :
  AtI t (r.takeOne t a b).1 (i + 1) ∧ (r.takeOne t a b).1.bad = false ∧ (r.takeOne t a b).1.depth = r.depth ∧ ∃ c, (keptL t)[i]? = some c ∧ a ≤ c ∧ c ≤ b ∧ (r.takeOne t a b).2 = (c.toNat : Int) - (a.toNat : Int) := by
 have hs2 := hs
 rw [sees_at h] at hs2
 simp only [Bool.and_eq_true, Bool.not_eq_true'] at hs2
 obtain ⟨hb, hr⟩ := hs2
 cases hc : (keptL t)[i]? with
 | none => rw [hc] at hr; cases hr
 | some c =>
 rw [hc] at hr
 simp [inR] at hr
 have hi := (List.getElem?_eq_some_iff.mp hc).1
 obtain ⟨f1, f2, f3, _⟩ := posL_facts t 0 i hi
 rw [Nat.sub_zero] at f2 f3
 have hpos : r.pos = posL t 0 i := h.pos
 unfold Rd.takeOne
 rw [if_pos hs]
 refine ⟨⟨?_, by omega⟩, hb, rfl, c, rfl, hr.1, hr.2, ?_⟩
 ·show skipL (t.drop (r.pos + 1)) (r.pos + 1) = posI t (i + 1)
  rw [hpos]; exact f3
 ·have : t.getD r.pos 0 = c := by
   rw [List.getD_eq_getElem?_getD, hpos, f2, hc]; rfl
  rw [this]
theorem fail_at {t : List UInt8} {r : Rd} {i : Nat} (h : AtI t r i) {a b : UInt8} (hs : r.seesOne t a b = false) : (r.takeOne t a b).1 = { r with bad := true } ∧ (r.takeOne t a b).2 = 0 := by
 unfold Rd.takeOne
 rw [if_neg (by rw [hs]; decide)]
 exact ⟨rfl, rfl⟩
theorem first_at (t : List UInt8) : AtI t (Rd.skip t Rd.first) 0 := ⟨by show skipL (t.drop 0) 0 = _; rw [List.drop_zero]; exact skip_posL t 0, Nat.zero_le _⟩
theorem at_place {t : List UInt8} {i : Nat} (h : i < (keptL t).length) : (atL t 0)[i]? = some (posI t i : Int) := (posL_facts t 0 i h).2.2.2
end Go.Proofs.YtdgmoiflahoihaaGreatDoor
namespace Go.Proofs.YtdgmoiflahoihaaGreatDoor
set_option linter.unusedSimpArgs false
set_option linter.unusedVariables false
def Stp1 (C : List UInt8) (i : Nat) (f g : Fm) : Prop := ∃ c, C[i]? = some c ∧ f.next (c.toNat : Int) = (g, true)
def GoC (C : List UInt8) (i : Nat) (f : Fm) (j : Nat) (g : Fm) : Prop := ∃ n, i + n = j ∧ ∃ fs : Nat → Fm, fs 0 = f ∧ fs n = g ∧ ∀ k, k < n → Stp1 C (i + k) (fs k) (fs (k + 1))
theorem GoC.refl (C : List UInt8) (i : Nat) (f : Fm) : GoC C i f i f := ⟨0, rfl, fun _ => f, rfl, rfl, fun k h => by omega⟩
theorem GoC.one {C : List UInt8} {i : Nat} {f g : Fm} (h : Stp1 C i f g) : GoC C i f (i + 1) g :=
 ⟨1, rfl, fun k => if k = 0 then f else g, rfl, rfl, fun k hk => by
  have : k = 0 := by omega
  subst this
  exact h⟩
theorem GoC.trans {C : List UInt8} {i j k : Nat} {f g h : Fm} (a : GoC C i f j g) (b : GoC C j g k h) : GoC C i f k h := by
 obtain ⟨n, hn, fs, h0, h1, hs⟩ := a
 obtain ⟨m, hm, gs, k0, k1, ks⟩ := b
 refine ⟨n + m, by omega, fun x => if x < n then fs x else gs (x - n), ?_, ?_, ?_⟩
 ·by_cases hz : 0 < n
  ·simp only [hz, if_true]; exact h0
  ·have : n = 0 := by omega
   subst this
   simp only [Nat.lt_irrefl, if_false]
   rw [← h0, h1, ← k0]
 ·by_cases hz : n + m < n
  ·omega
  ·simp only [hz, if_false]; rw [show n + m - n = m by omega]; exact k1
 ·intro x hx
  show Stp1 C (i + x) (if x < n then fs x else gs (x - n)) (if x + 1 < n then fs (x + 1) else gs (x + 1 - n))
  by_cases hz : x < n
  ·by_cases hz2 : x + 1 < n
   ·simp only [hz, hz2, if_true]; exact hs x hz
   ·have e : x + 1 = n := by omega
    rw [if_pos hz, if_neg (by omega), show x + 1 - n = 0 by omega, k0, ← h1, ← e]
    exact hs x hz
  ·rw [if_neg hz, if_neg (by omega)]
   have := ks (x - n) (by omega)
   rw [show j + (x - n) = i + x by omega] at this
   rw [show x + 1 - n = x - n + 1 by omega]
   exact this
theorem GoC.le {C : List UInt8} {i j : Nat} {f g : Fm} (a : GoC C i f j g) : i ≤ j := by obtain ⟨n, hn, _⟩ := a; omega
def StuckC (C : List UInt8) (j : Nat) (g : Fm) : Prop := match C[j]? with | some c => (g.next (c.toNat : Int)).2 = false | none => g.done = false
def placeC : List UInt8 → Fm → Nat → Option Nat
 | [], f, j => if f.done then none else some j
 | c :: r, f, j => if (f.next (c.toNat : Int)).2 then placeC r (f.next (c.toNat : Int)).1 (j + 1) else some j
theorem placeC_cons (c : UInt8) (r : List UInt8) (f : Fm) (j : Nat) : placeC (c :: r) f j = if (f.next (c.toNat : Int)).2 then placeC r (f.next (c.toNat : Int)).1 (j + 1) else some j := rfl
theorem placeC_shift : ∀ (l : List UInt8) (f : Fm) (j : Nat), placeC l f (j + 1) = (placeC l f j).map (· + 1)
 | [], f, j => by unfold placeC; split <;> rfl
 | c :: r, f, j => by
  unfold placeC
  split
  ·exact placeC_shift r _ (j + 1)
  ·rfl
theorem goC_place {t : List UInt8} : ∀ (l : List UInt8) (k : Nat) (f : Fm), placeR l f k = (match placeC (keptL l) f 0 with | none => -1 | some j => (posL l k j : Int))
 | [], k, f => by
  simp only [placeR, keptL, placeC]
  split <;> simp [posL]
 | c :: r, k, f => by
  by_cases hb : blankB c = true
  ·simp only [placeR, keptL, hb, if_true]
   rw [goC_place (t := t) r (k + 1) f]
   cases placeC (keptL r) f 0 with
   | none => rfl
   | some j => simp [posL, hb]
  ·have hb' : blankB c = false := by simpa using hb
   simp only [placeR, keptL, hb', Bool.false_eq_true, if_false, placeC]
   split
   ·rw [goC_place (t := t) r (k + 1) _, placeC_shift]
    cases placeC (keptL r) (f.next (c.toNat : Int)).1 0 with
    | none => rfl
    | some j => simp [posL, hb']
   ·simp [posL, hb']
theorem placeC_go {C : List UInt8} : ∀ (n i : Nat) (fs : Nat → Fm), (∀ k, k < n → Stp1 C (i + k) (fs k) (fs (k + 1))) → placeC (C.drop i) (fs 0) i = placeC (C.drop (i + n)) (fs n) (i + n)
 | 0, i, fs, _ => rfl
 | n + 1, i, fs, h => by
  obtain ⟨c, hc, hn⟩ := h 0 (by omega)
  obtain ⟨hl, he⟩ := List.getElem?_eq_some_iff.mp hc
  have hl' : i < C.length := by simpa using hl
  have he' : C[i] = c := by simpa using he
  rw [List.drop_eq_getElem_cons hl', he', placeC_cons, hn]
  simp only [if_true]
  have := placeC_go n (i + 1) (fun k => fs (k + 1)) (fun k hk => by have := h (k + 1) (by omega); rw [show i + (k + 1) = i + 1 + k by omega] at this; exact this)
  rw [this]
  rw [show i + 1 + n = i + (n + 1) by omega]
theorem stuck_place {t : List UInt8} {j : Nat} {g : Fm} (h : GoC (keptL t) 0 Fm.start j g) (hj : j ≤ (keptL t).length) (hs : StuckC (keptL t) j g) : placeOf t = (posI t j : Int) := by
 obtain ⟨n, hn, fs, h0, h1, hst⟩ := h
 have e := placeC_go n 0 fs hst
 rw [h0, h1] at e
 simp only [Nat.zero_add] at hn e
 subst hn
 rw [List.drop_zero] at e
 unfold placeOf
 rw [goC_place (t := t) t 0 Fm.start, e]
 have : placeC ((keptL t).drop n) g n = some n := by
  unfold StuckC at hs
  cases hc : (keptL t)[n]? with
  | none =>
   rw [hc] at hs
   rw [List.drop_of_length_le (by have := List.getElem?_eq_none_iff.mp hc; omega)]
   simp only at hs
   simp [placeC, hs]
  | some c =>
   rw [hc] at hs
   obtain ⟨hl, he⟩ := List.getElem?_eq_some_iff.mp hc
   rw [List.drop_eq_getElem_cons hl, he]
   simp only at hs
   simp [placeC, hs]
 rw [this]
 rfl
theorem done_place {t : List UInt8} {g : Fm} (h : GoC (keptL t) 0 Fm.start (keptL t).length g) (hd : g.done = true) : placeOf t = -1 := by
 obtain ⟨n, hn, fs, h0, h1, hst⟩ := h
 have e := placeC_go n 0 fs hst
 rw [h0, h1] at e
 simp only [Nat.zero_add] at hn e
 rw [List.drop_zero, hn] at e
 unfold placeOf
 rw [goC_place (t := t) t 0 Fm.start, e, List.drop_of_length_le (Nat.le_refl _)]
 simp [placeC, hd]
end Go.Proofs.YtdgmoiflahoihaaGreatDoor
namespace Go.Proofs.YtdgmoiflahoihaaGreatDoor
set_option linter.unusedSimpArgs false
set_option linter.unusedVariables false
def nmBits : List Pt → Nat
 | [] => 0
 | p :: r => (if p.op = 2 then 2 ^ p.num.toNat else 0) ||| nmBits r
theorem nmBits_app : ∀ (a b : List Pt), nmBits (a ++ b) = nmBits a ||| nmBits b
 | [], b => by simp [nmBits]
 | p :: r, b => by simp only [List.cons_append, nmBits, nmBits_app r b, Nat.or_assoc]
structure Sg (C : List UInt8) (i j : Nat) (P : List Pt) : Prop where
 le : i ≤ j
 hj : j ≤ C.length
 pass : ∀ n : Int, 1 ≤ n → shutR (C.drop i) n i = shutR (C.drop j) n j
 semi : semiR (C.drop i) i = semiR (C.drop j) j
 size : sizeL false (seg C i j) = P.length
 names : ∀ m, namesL (seg C i j) m = m ||| nmBits P
 ok : ∀ p ∈ P, PtOk p
theorem seg_app {C : List UInt8} {i j k : Nat} (h1 : i ≤ j) (h2 : j ≤ k) : seg C i k = seg C i j ++ seg C j k := by
 unfold seg
 rw [show C.drop j = (C.drop i).drop (j - i) by rw [List.drop_drop]; congr 1; omega, show k - i = (j - i) + (k - j) by omega, List.take_add]
theorem seg_one {C : List UInt8} {i : Nat} {c : UInt8} (h : C[i]? = some c) : seg C i (i + 1) = [c] := by
 obtain ⟨hl, he⟩ := List.getElem?_eq_some_iff.mp h
 rw [seg_cons (by omega) (by omega), he, seg_nil (Nat.le_refl _)]
theorem namesL_app : ∀ (a b : List UInt8) (m : Nat), namesL (a ++ b) m = namesL b (namesL a m)
 | [], b, m => rfl
 | c :: r, b, m => by simp only [List.cons_append, namesL]; exact namesL_app r b _
def lastD (d : Bool) : List UInt8 → Bool
 | [] => d
 | c :: r => lastD (dgB c) r
theorem sizeL_app : ∀ (a b : List UInt8) (d : Bool), sizeL d (a ++ b) = sizeL d a + sizeL (lastD d a) b
 | [], b, d => by simp [sizeL, lastD]
 | c :: r, b, d => by simp only [List.cons_append, sizeL, lastD, sizeL_app r b (dgB c)]; omega
theorem sizeL_flag {d : Bool} {c : UInt8} {r : List UInt8} (h : dgB c = false) : sizeL d (c :: r) = sizeL false (c :: r) := by simp [sizeL, h]
theorem lastD_app : ∀ (a b : List UInt8) (d : Bool), lastD d (a ++ b) = lastD (lastD d a) b
 | [], b, d => rfl
 | c :: r, b, d => by simp only [List.cons_append, lastD]; exact lastD_app r b _
theorem lastD_seg {C : List UInt8} {i j : Nat} {c : UInt8} (hi : i < j) (h : C[j - 1]? = some c) (hj : j ≤ C.length) : lastD false (seg C i j) = dgB c := by
 rw [seg_app (show i ≤ j - 1 by omega) (show j - 1 ≤ j by omega), lastD_app]
 have := seg_one h
 rw [show j - 1 + 1 = j by omega] at this
 rw [this]
 rfl
theorem Sg.cat {C : List UInt8} {i j k : Nat} {P Q R : List Pt} (a : Sg C i j P) (b : Sg C j k Q) (hl : R.length = P.length + Q.length) (hn : nmBits R = nmBits P ||| nmBits Q) (ho : ∀ p ∈ R, p ∈ P ∨ p ∈ Q)
  (hd : (∃ c, C[j]? = some c ∧ dgB c = false) ∨ (i < j → ∃ c, C[j - 1]? = some c ∧ dgB c = false)) : Sg C i k R := by
 refine ⟨Nat.le_trans a.le b.le, b.hj, fun n hn1 => (a.pass n hn1).trans (b.pass n hn1), a.semi.trans b.semi, ?_, ?_, fun p hp => (ho p hp).elim (a.ok p) (b.ok p)⟩
 ·rw [seg_app a.le b.le, sizeL_app, a.size, hl, ← b.size]
  congr 1
  have hsz := b.size
  rcases hd with ⟨c, hc, hdc⟩ | hd
  ·by_cases hjk : j < k
   ·obtain ⟨hjl, he⟩ := List.getElem?_eq_some_iff.mp hc
    rw [seg_cons hjk b.hj, he]
    exact sizeL_flag hdc
   ·rw [seg_nil (C := C) (show k ≤ j by omega)]; rfl
  ·by_cases hij : i < j
   ·obtain ⟨c, hc, hdc⟩ := hd hij
    rw [lastD_seg hij hc a.hj, hdc]
   ·rw [seg_nil (C := C) (show j ≤ i by omega)]; rfl
 ·intro m
  rw [seg_app a.le b.le, namesL_app, a.names, b.names, hn, Nat.or_assoc]
theorem Sg.nil {C : List UInt8} {i : Nat} (h : i ≤ C.length) : Sg C i i [] := by
 refine ⟨Nat.le_refl _, h, fun _ _ => rfl, rfl, ?_, fun m => ?_, fun p hp => by cases hp⟩
 ·rw [seg_nil (Nat.le_refl _)]; rfl
 ·rw [seg_nil (Nat.le_refl _)]; simp [namesL, nmBits]
theorem pass_one {C : List UInt8} {i : Nat} {c : UInt8} (h : C[i]? = some c) (hd : dl c = 0) (n : Int) (hn : 1 ≤ n) : shutR (C.drop i) n i = shutR (C.drop (i + 1)) n (i + 1) := by
 obtain ⟨hl, he⟩ := List.getElem?_eq_some_iff.mp h
 rw [shutR_cons hl, he, hd, if_neg (by omega), Int.add_zero]
theorem semi_one {C : List UInt8} {i : Nat} {c : UInt8} (h : C[i]? = some c) (hd : c ≠ 59) : semiR (C.drop i) i = semiR (C.drop (i + 1)) (i + 1) := by
 obtain ⟨hl, he⟩ := List.getElem?_eq_some_iff.mp h
 rw [List.drop_eq_getElem_cons hl, he]
 simp [semiR, hd]
theorem Sg.byte {C : List UInt8} {i : Nat} {c : UInt8} {p : Pt} (h : C[i]? = some c) (h0 : dl c = 0) (h1 : c ≠ 59) (h3 : nmB c = true → p.op = 2 ∧ p.num = (c.toNat : Int) - 97) (h4 : nmB c = false → p.op ≠ 2) : Sg C i (i + 1) [p] := by
 have hl := (List.getElem?_eq_some_iff.mp h).1
 have hc4 : c ≠ 40 ∧ c ≠ 41 := by
  constructor <;> (intro e; subst e; revert h0; decide)
 refine ⟨by omega, by omega, pass_one h h0, semi_one h h1, ?_, fun m => ?_, ?_⟩
 ·rw [seg_one h]; simp [sizeL, hc4.1, hc4.2]
 ·rw [seg_one h]
  cases hn : nmB c
  ·simp [namesL, hn, nmBits, h4 hn]
  ·obtain ⟨e1, e2⟩ := h3 hn
   have hn2 := hn
   simp [nmB] at hn2
   have : p.num.toNat = c.toNat - 97 := by omega
   simp [namesL, hn, nmBits, e1, this]
 ·intro q hq
  simp at hq
  subst hq
  intro e
  cases hn : nmB c
  ·exact absurd e (h4 hn)
  ·obtain ⟨_, e2⟩ := h3 hn
   simp [nmB] at hn
   omega
theorem dg_dl {c : UInt8} (h : dgB c = true) : dl c = 0 ∧ c ≠ 59 ∧ nmB c = false ∧ c ≠ 40 ∧ c ≠ 41 := by
 simp [dgB] at h
 have hne : ∀ k : UInt8, (k.toNat < 48 ∨ 57 < k.toNat) → c ≠ k := by intro k hk e; subst e; omega
 refine ⟨?_, hne 59 (by decide), by simp [nmB]; omega, hne 40 (by decide), hne 41 (by decide)⟩
 have h1 := hne 40 (by decide)
 have h2 := hne 123 (by decide)
 have h3 := hne 41 (by decide)
 have h4 := hne 125 (by decide)
 simp [dl, h1, h2, h3, h4]
theorem digits_size : ∀ (l : List UInt8), (∀ c ∈ l, dgB c = true) → sizeL true l = 0 ∧ ∀ m, namesL l m = m
 | [], _ => ⟨rfl, fun _ => rfl⟩
 | c :: r, h => by
  have hc := h c (by simp)
  obtain ⟨i1, i2⟩ := digits_size r (fun x hx => h x (by simp [hx]))
  have hd := dg_dl hc
  refine ⟨by simp [sizeL, hc, i1], fun m => by simp [namesL, hd.2.2.1, i2]⟩
theorem digits_pass {C : List UInt8} : ∀ (n i : Nat), (∀ k, k < n → ∃ c, C[i + k]? = some c ∧ dgB c = true) → (∀ m : Int, 1 ≤ m → shutR (C.drop i) m i = shutR (C.drop (i + n)) m (i + n)) ∧ semiR (C.drop i) i = semiR (C.drop (i + n)) (i + n)
 | 0, i, _ => ⟨fun _ _ => rfl, rfl⟩
 | n + 1, i, h => by
  obtain ⟨c, hc, hd⟩ := h 0 (by omega)
  have d := dg_dl hd
  obtain ⟨p, q⟩ := digits_pass n (i + 1) (fun k hk => by have := h (k + 1) (by omega); rwa [show i + (k + 1) = i + 1 + k by omega] at this)
  rw [show i + (n + 1) = i + 1 + n by omega]
  exact ⟨fun m hm => (pass_one hc d.1 m hm).trans (p m hm), (semi_one hc d.2.1).trans q⟩
theorem Sg.number {C : List UInt8} {i j : Nat} (hij : i < j) (hj : j ≤ C.length) (h : ∀ k, i ≤ k → k < j → ∃ c, C[k]? = some c ∧ dgB c = true) (v : Int) : Sg C i j [⟨1, v⟩] := by
 obtain ⟨p, q⟩ := digits_pass (C := C) (j - i) i (fun k hk => h (i + k) (by omega) (by omega))
 rw [show i + (j - i) = j by omega] at p q
 have hall : ∀ c ∈ seg C (i + 1) j, dgB c = true := by
  intro c hc
  unfold seg at hc
  obtain ⟨k, hk, rfl⟩ := List.getElem_of_mem hc
  simp at hk
  obtain ⟨d, hd1, hd2⟩ := h (i + 1 + k) (by omega) (by omega)
  simp only [List.getElem_take, List.getElem_drop]
  have : C[i + 1 + k]? = some C[i + 1 + k] := List.getElem?_eq_getElem (by omega)
  rw [hd1] at this
  cases this
  exact hd2
 obtain ⟨s1, s2⟩ := digits_size _ hall
 obtain ⟨c, hc, hd⟩ := h i (Nat.le_refl _) hij
 have dd := dg_dl hd
 obtain ⟨hl, he⟩ := List.getElem?_eq_some_iff.mp hc
 refine ⟨by omega, hj, p, q, ?_, fun m => ?_, fun x hx => by simp at hx; subst hx; intro e; simp at e⟩
 ·rw [seg_cons hij hj, he]
  simp [sizeL, hd, s1, dd.2.2.2.1, dd.2.2.2.2]
 ·rw [seg_cons hij hj, he]
  simp [namesL, dd.2.2.1, s2, nmBits]
theorem Sg.pair {C : List UInt8} {i j : Nat} {P : List Pt} (a : Sg C (i + 1) j P) (ho : C[i]? = some 40) (hc : C[j]? = some 41) (hd : dgB 40 = false) : Sg C i (j + 1) P := by
 obtain ⟨hl, he⟩ := List.getElem?_eq_some_iff.mp ho
 obtain ⟨hl2, he2⟩ := List.getElem?_eq_some_iff.mp hc
 have hle := a.le
 refine ⟨by omega, by omega, fun n hn => ?_, ?_, ?_, fun m => ?_, a.ok⟩
 ·rw [shutR_cons hl, he, show dl 40 = 1 by decide, if_neg (by omega), a.pass (n + 1) (by omega), shutR_cons hl2, he2, show dl 41 = -1 by decide, if_neg (by omega), show n + 1 + -1 = n by omega]
 ·rw [semi_one ho (by decide), a.semi, semi_one hc (by decide)]
 ·rw [seg_app (show i ≤ i + 1 by omega) (show i + 1 ≤ j + 1 by omega), seg_one ho, seg_app hle (show j ≤ j + 1 by omega), seg_one hc, sizeL_app, sizeL_app]
  simp only [lastD, hd]
  rw [a.size]
  simp [sizeL]
 ·rw [seg_app (show i ≤ i + 1 by omega) (show i + 1 ≤ j + 1 by omega), seg_one ho, seg_app hle (show j ≤ j + 1 by omega), seg_one hc, namesL_app, namesL_app, a.names]
  simp [namesL, nmB]
end Go.Proofs.YtdgmoiflahoihaaGreatDoor
namespace Go.Proofs.YtdgmoiflahoihaaGreatDoor
set_option linter.unusedSimpArgs false
set_option linter.unusedVariables false
theorem inR_one (c k : UInt8) : inR (some c) k k = decide (c = k) := by
 simp only [inR, UInt8.le_iff_toNat_le]
 rw [Bool.eq_iff_iff]
 simp
 constructor
 ·intro h; exact UInt8.toNat_inj.mp (by omega)
 ·intro h; subst h; omega
theorem inR_dg (c : UInt8) : inR (some c) 48 57 = dgB c := by simp [inR, dgB, UInt8.le_iff_toNat_le]
theorem inR_nm (c : UInt8) : inR (some c) 97 122 = nmB c := by simp [inR, nmB, UInt8.le_iff_toNat_le]
theorem isDg_u (c : UInt8) : isDg (c.toNat : Int) = dgB c := by
 rw [Bool.eq_iff_iff]; simp [isDg, dgB]; omega
theorem isNm_u (c : UInt8) : isNm (c.toNat : Int) = nmB c := by
 rw [Bool.eq_iff_iff]; simp [isNm, nmB]; omega
theorem isSc_u (c : UInt8) : isSc (c.toNat : Int) = scB c := by
 rw [Bool.eq_iff_iff]; simp [isSc, scB]; omega
theorem u8_nat {c k : UInt8} (h : c ≠ k) : c.toNat ≠ k.toNat := fun e => h (UInt8.toNat_inj.mp e)
theorem unit_dg {f : Fm} {c : UInt8} (h : dgB c = true) : f.unit (c.toNat : Int) = ({ f with digits := 1, st := 11 }, true) := by
 unfold Fm.unit Fm.to
 rw [isDg_u, if_pos h]
theorem dg_not_nm {c : UInt8} (h : dgB c = true) : nmB c = false := (dg_dl h).2.2.1
theorem unit_nm {f : Fm} {c : UInt8} (h : nmB c = true) : f.unit (c.toNat : Int) = ({ f with st := 12 }, true) := by
 have hd : dgB c = false := by
  cases hd : dgB c with
  | false => rfl
  | true => rw [dg_not_nm hd] at h; cases h
 unfold Fm.unit Fm.to
 rw [isDg_u, isNm_u, if_neg (by rw [hd]; decide), if_pos h]
theorem unit_minus (f : Fm) : f.unit ((45 : UInt8).toNat : Int) = ({ f with st := 10 }, true) := by
 simp [Fm.unit, Fm.to, isDg, isNm]
theorem unit_open {f : Fm} (h : f.op.length < 8) : f.unit ((40 : UInt8).toNat : Int) = ({ f with op := (if f.related then 69 else 101) :: f.op, related := false, st := 10 }, true) := by
 simp [Fm.unit, Fm.to, isDg, isNm, h]
theorem unit_full {f : Fm} (h : ¬ f.op.length < 8) : (f.unit ((40 : UInt8).toNat : Int)).2 = false := by
 simp [Fm.unit, Fm.to, isDg, isNm, h]
theorem unit_no {f : Fm} {c : UInt8} (h1 : dgB c = false) (h2 : nmB c = false) (h3 : c ≠ 45) (h4 : c ≠ 40) : (f.unit (c.toNat : Int)).2 = false := by
 have k3 := u8_nat h3
 have k4 := u8_nat h4
 unfold Fm.unit Fm.to
 rw [isDg_u, isNm_u, if_neg (by rw [h1]; decide), if_neg (by rw [h2]; decide), if_neg (by simp at k3; omega), if_neg (by simp at k4; omega)]
def opB (c : UInt8) : Bool := c == 43 || c == 45 || c == 42 || c == 47 || c == 37
theorem after_op {f : Fm} {c : UInt8} (h : opB c = true) : f.after (c.toNat : Int) = ({ f with st := 10 }, true) := by
 simp [opB] at h
 rcases h with (((rfl | rfl) | rfl) | rfl) | rfl <;> simp [Fm.after, Fm.to]
theorem after_rel {f : Fm} {c : UInt8} (h : c = 60 ∨ c = 61) (hr : f.related = false) : f.after (c.toNat : Int) = ({ f with related := true, st := 10 }, true) := by
 rcases h with rfl | rfl <;> simp [Fm.after, Fm.to, hr]
theorem after_semi {f : Fm} (h : f.paren = false) : f.after ((59 : UInt8).toNat : Int) = ({ f with st := 0 }, true) := by
 simp [Fm.after, Fm.to, h]
theorem after_semi_no {f : Fm} (h : f.paren = true) : (f.after ((59 : UInt8).toNat : Int)).2 = false := by
 simp [Fm.after, Fm.to, h]
theorem after_close_c {f : Fm} (h : f.top = 99) : f.after ((41 : UInt8).toNat : Int) = ({ f with op := f.op.tail, related := false, block := [49], st := 14 }, true) := by
 simp [Fm.after, Fm.to, h]
theorem after_close_e {f : Fm} (h : f.top = 101) : f.after ((41 : UInt8).toNat : Int) = ({ f with op := f.op.tail, related := false, st := 12 }, true) := by
 simp [Fm.after, Fm.to, h]
theorem after_close_E {f : Fm} (h : f.top = 69) : f.after ((41 : UInt8).toNat : Int) = ({ f with op := f.op.tail, related := true, st := 12 }, true) := by
 simp [Fm.after, Fm.to, h]
theorem after_close_no {f : Fm} (h : f.paren = false) : (f.after ((41 : UInt8).toNat : Int)).2 = false := by
 simp [Fm.paren] at h
 simp [Fm.after, Fm.to, h]
theorem after_no {f : Fm} {c : UInt8} (h1 : opB c = false) (h2 : (c = 60 ∨ c = 61) → f.related = true) (h3 : c ≠ 59) (h4 : c ≠ 41) : (f.after (c.toNat : Int)).2 = false := by
 simp [opB] at h1
 have a1 := u8_nat h1.1.1.1.1
 have a2 := u8_nat h1.1.1.1.2
 have a3 := u8_nat h1.1.1.2
 have a4 := u8_nat h1.1.2
 have a5 := u8_nat h1.2
 have k3 := u8_nat h3
 have k4 := u8_nat h4
 simp at a1 a2 a3 a4 a5 k3 k4
 unfold Fm.after Fm.to
 rw [if_neg (by omega)]
 rw [if_neg (by
  rintro ⟨h, hr⟩
  have : c = 60 ∨ c = 61 := by
   rcases h with h | h
   ·exact .inl (UInt8.toNat_inj.mp (by simp; omega))
   ·exact .inr (UInt8.toNat_inj.mp (by simp; omega))
  rw [h2 this] at hr
  cases hr)]
 rw [if_neg (by omega), if_neg (by omega), if_neg (by omega), if_neg (by omega)]
theorem after_dg {f : Fm} {c : UInt8} (h : dgB c = true) : (f.after (c.toNat : Int)).2 = false := by
 simp [dgB] at h
 unfold Fm.after Fm.to
 rw [if_neg (by omega), if_neg (by omega), if_neg (by omega), if_neg (by omega), if_neg (by omega), if_neg (by omega)]
theorem next10 {f : Fm} (h : f.st = 10) (c : Int) : f.next c = f.unit c := by
 unfold Fm.next
 simp [h]
theorem next12 {f : Fm} (h : f.st = 12) (c : Int) : f.next c = f.after c := by
 unfold Fm.next
 simp [h]
theorem next11_dg {f : Fm} (h : f.st = 11) {c : UInt8} (hd : dgB c = true) : f.next (c.toNat : Int) = ({ f with digits := f.digits + 1 }, decide (f.digits + 1 ≤ 18)) := by
 unfold Fm.next
 rw [isDg_u]
 simp [h, hd]
theorem next11_no {f : Fm} (h : f.st = 11) {c : UInt8} (hd : dgB c = false) : f.next (c.toNat : Int) = f.after (c.toNat : Int) := by
 unfold Fm.next
 rw [isDg_u]
 simp [h, hd]
end Go.Proofs.YtdgmoiflahoihaaGreatDoor
namespace Go.Proofs.YtdgmoiflahoihaaGreatDoor
set_option linter.unusedSimpArgs false
set_option linter.unusedVariables false
structure UnitSt (C : List UInt8) (i : Nat) (f : Fm) : Prop where
 nd : f.done = false
 nx : ∀ c, C[i]? = some c → f.next (c.toNat : Int) = f.unit (c.toNat : Int)
 pv : 0 < i → ∃ d, C[i - 1]? = some d ∧ dgB d = false
structure AfterSt (C : List UInt8) (i : Nat) (f g : Fm) : Prop where
 op : g.op = f.op
 body : g.body = f.body
 nd : g.done = false
 nx : ∀ c, C[i]? = some c → dgB c = false → g.next (c.toNat : Int) = g.after (c.toNat : Int)
 dg : ∀ c, C[i]? = some c → dgB c = true → (g.next (c.toNat : Int)).2 = false
def Out (t : List UInt8) (x y : RP) (i : Nat) (f : Fm) (Q : Nat → Fm → Prop) : Prop :=
 ∃ i' g P, AtI t y.1 i' ∧ GoC (keptL t) i f i' g ∧ y.2 = x.2 ++ P ∧ (y.1.bad = true → StuckC (keptL t) i' g) ∧ (y.1.bad = false → Q i' g ∧ Sg (keptL t) i i' P ∧ i < i')
theorem bad_self {r : Rd} (h : r.bad = true) : ({ r with bad := true } : Rd) = r := by cases r; simp at h; simp [h]
theorem minusF_bad {t : List UInt8} {r : Rd} (h : r.bad = true) (n : Nat) : minusF t n r = (r, 0) := by
 cases n with
 | zero => rfl
 | succ n => exact minus_no n (bad_sees h 45 45)
theorem plainU_bad {t : List UInt8} {cmp : RP → RP} {x : RP} (h : x.1.bad = true) : plainU t cmp x = x := by
 unfold plainU
 simp [bad_sees h, bad_self h]
theorem unitU_bad {t : List UInt8} {cmp : RP → RP} {x : RP} (h : x.1.bad = true) : unitU t cmp x = x := by
 unfold unitU
 rw [minusF_bad h]
 simp only
 rw [plainU_bad (x := (x.1, x.2)) h]
 simp [negs]
theorem oper_bad {t : List UInt8} {r : Rd} (h : r.bad = true) (a b : UInt8) (p q : Int) : r.oper t a p b q = (r, 0) := by
 unfold Rd.oper
 simp [bad_sees h]
theorem prodOper_bad {t : List UInt8} {r : Rd} (h : r.bad = true) : r.prodOper t = (r, 0) := by
 unfold Rd.prodOper
 rw [bad_sees h, oper_bad h]
 simp
theorem prodL_bad {t : List UInt8} {cmp : RP → RP} {x : RP} (h : x.1.bad = true) (k : Nat) : prodL t cmp k x = x := by
 cases k with
 | zero => rfl
 | succ k => exact prodL_stop k (prodOper_bad h)
theorem prodU_bad {t : List UInt8} {cmp : RP → RP} {x : RP} (h : x.1.bad = true) : prodU t cmp x = x := by
 unfold prodU
 rw [unitU_bad h, prodL_bad h]
theorem sumL_bad {t : List UInt8} {cmp : RP → RP} {x : RP} (h : x.1.bad = true) (k : Nat) : sumL t cmp k x = x := by
 cases k with
 | zero => rfl
 | succ k => exact sumL_stop k (oper_bad h _ _ _ _)
theorem sumU_bad {t : List UInt8} {cmp : RP → RP} {x : RP} (h : x.1.bad = true) : sumU t cmp x = x := by
 unfold sumU
 rw [prodU_bad h, sumL_bad h]
theorem cmpU_bad {t : List UInt8} {cmp : RP → RP} {x : RP} (h : x.1.bad = true) : cmpU t cmp x = x := by
 unfold cmpU
 rw [sumU_bad h]
 simp only
 rw [oper_bad h]
 simp
theorem sees_one {t : List UInt8} {r : Rd} {i : Nat} (h : AtI t r i) (hb : r.bad = false) (k : UInt8) : r.seesOne t k k = true ↔ (keptL t)[i]? = some k := by
 rw [sees_at h, hb]
 cases (keptL t)[i]? with
 | none => simp [inR]
 | some c => rw [inR_one]; simp
theorem sees_false {t : List UInt8} {r : Rd} {i : Nat} (h : AtI t r i) (hb : r.bad = false) {k : UInt8} (hs : r.seesOne t k k = false) : (keptL t)[i]? ≠ some k := by
 intro e
 rw [(sees_one h hb k).mpr e] at hs
 cases hs
theorem stuck_unit {C : List UInt8} {i : Nat} {f : Fm} (h : UnitSt C i f) (hn : ∀ c, C[i]? = some c → (f.unit (c.toNat : Int)).2 = false) : StuckC C i f := by
 unfold StuckC
 cases hc : C[i]? with
 | none => exact h.nd
 | some c => simp only; rw [h.nx c hc]; exact hn c hc
theorem done_st {f : Fm} (h : f.st ≠ 0 ∧ f.st ≠ 1) : f.done = false := by simp [Fm.done, h.1, h.2]
theorem unit10 {C : List UInt8} {i : Nat} {f : Fm} (h : f.st = 10) (hp : ∃ d, C[i]? = some d ∧ dgB d = false) : UnitSt C (i + 1) f :=
 ⟨done_st (by rw [h]; decide), fun c _ => next10 h _, fun _ => by simpa using hp⟩
theorem minus_spec {t : List UInt8} : ∀ (n : Nat) (r : Rd) (i : Nat) (f : Fm), AtI t r i → r.bad = false → UnitSt (keptL t) i f → (keptL t).length - i < n →
  ∃ i' g, AtI t (minusF t n r).1 i' ∧ (minusF t n r).1.bad = false ∧ (minusF t n r).1.depth = r.depth ∧ GoC (keptL t) i f i' g ∧ UnitSt (keptL t) i' g ∧ g.op = f.op ∧ g.body = f.body ∧ g.related = f.related ∧ (keptL t)[i']? ≠ some 45 ∧ Sg (keptL t) i i' (negs (minusF t n r).2)
 | 0, r, i, f, h, hb, hu, hn => by omega
 | n + 1, r, i, f, h, hb, hu, hn => by
  cases hs : r.seesOne t 45 45
  ·rw [minus_no n hs]
   exact ⟨i, f, h, hb, rfl, GoC.refl _ _ _, hu, rfl, rfl, rfl, sees_false h hb hs, Sg.nil h.le⟩
  ·have hc := (sees_one h hb 45).mp hs
   have hi := (List.getElem?_eq_some_iff.mp hc).1
   obtain ⟨a1, a2, a3, _⟩ := take_at h hs
   have hst : Stp1 (keptL t) i f { f with st := 10 } := ⟨45, hc, by rw [hu.nx 45 hc]; exact unit_minus f⟩
   have hu2 : UnitSt (keptL t) (i + 1) { f with st := 10 } := unit10 rfl ⟨45, hc, by decide⟩
   obtain ⟨i', g, b1, b2, b3, b4, b5, b6, b7, b8, b9, b10⟩ := minus_spec n (r.takeOne t 45 45).1 (i + 1) _ a1 a2 hu2 (by omega)
   rw [minus_yes n hs]
   refine ⟨i', g, b1, b2, b3.trans a3, (GoC.one hst).trans b4, b5, b6, b7, b8, b9, ?_⟩
   have hby : Sg (keptL t) i (i + 1) [⟨3, 0⟩] := Sg.byte hc (by decide) (by decide) (fun e => by revert e; decide) (fun _ => by decide)
   refine hby.cat b10 ?_ ?_ ?_ (.inr fun _ => ⟨45, by simpa using hc, by decide⟩)
   ·simp [negs]; omega
   ·have : ∀ k, nmBits (negs k) = 0 := by
     intro k
     induction k with
     | zero => rfl
     | succ k ih => simp [negs, List.replicate_succ, nmBits] at ih ⊢; exact ih
    rw [this, this]; rfl
   ·intro p hp
    exact .inl (by simp [negs] at hp; simp [hp])
theorem num_spec {t : List UInt8} : ∀ (n : Nat) (r : Rd) (v : Int) (i : Nat) (f : Fm), AtI t r i → r.bad = false → f.st = 11 → f.digits + n = 18 →
  ∃ i' g, AtI t (Rd.numF t n r v).1 i' ∧ (Rd.numF t n r v).1.bad = false ∧ (Rd.numF t n r v).1.depth = r.depth ∧ GoC (keptL t) i f i' g ∧ g.op = f.op ∧ g.body = f.body ∧ g.related = f.related ∧ g.st = 11 ∧ (∀ c, (keptL t)[i']? = some c → dgB c = true → g.digits = 18) ∧ i ≤ i' ∧ ∀ k, i ≤ k → k < i' → ∃ c, (keptL t)[k]? = some c ∧ dgB c = true
 | 0, r, v, i, f, h, hb, hf, hd => ⟨i, f, h, hb, rfl, GoC.refl _ _ _, rfl, rfl, rfl, hf, fun _ _ _ => by omega, Nat.le_refl _, fun k h1 h2 => by omega⟩
 | n + 1, r, v, i, f, h, hb, hf, hd => by
  unfold Rd.numF
  cases hs : r.seesOne t 48 57
  ·rw [if_neg (by decide)]
   refine ⟨i, f, h, hb, rfl, GoC.refl _ _ _, rfl, rfl, rfl, hf, fun c hc hdc => ?_, Nat.le_refl _, fun k h1 h2 => by omega⟩
   rw [sees_at h, hb, hc, inR_dg, hdc] at hs
   cases hs
  ·rw [if_pos rfl]
   obtain ⟨a1, a2, a3, c, hc, _⟩ := take_at h hs
   have hdc : dgB c = true := by
    rw [sees_at h, hb, hc, inR_dg] at hs
    simpa using hs
   have hst : Stp1 (keptL t) i f { f with digits := f.digits + 1 } := ⟨c, hc, by rw [next11_dg hf hdc]; simp; omega⟩
   obtain ⟨i', g, b1, b2, b3, b4, b5, b6, b7, b8, b9, b10, b11⟩ := num_spec n (r.takeOne t 48 57).1 (v * 10 + (r.takeOne t 48 57).2) (i + 1) { f with digits := f.digits + 1 } a1 a2 hf (by simp only; omega)
   refine ⟨i', g, b1, b2, b3.trans a3, (GoC.one hst).trans b4, b5, b6, b7, b8, b9, by omega, fun k h1 h2 => ?_⟩
   by_cases hk : k = i
   ·subst hk; exact ⟨c, hc, hdc⟩
   ·exact b11 k (by omega) h2
def CmpBad (cmp : RP → RP) : Prop := ∀ x : RP, x.1.bad = true → cmp x = x
def CmpSpec (t : List UInt8) (n : Nat) (cmp : RP → RP) : Prop := ∀ (x : RP) (i : Nat) (f : Fm), AtI t x.1 i → x.1.bad = false → x.1.depth = f.op.length → Fit t n x → UnitSt (keptL t) i f → f.related = false →
 Out t x (cmp x) i f fun i' g => AfterSt (keptL t) i' f g ∧ (∀ c, (keptL t)[i']? = some c → opB c = false ∧ ((c = 60 ∨ c = 61) → g.related = true))
theorem plain_spec {t : List UInt8} {n : Nat} {cmp : RP → RP} (hc : CmpSpec t n cmp) (ha : CmpAdv t n cmp) (hcb : CmpBad cmp) (x : RP) (i : Nat) (f : Fm) (h : AtI t x.1 i) (hb : x.1.bad = false) (hd : x.1.depth = f.op.length) (hf : Fit t (n + 1) x) (hu : UnitSt (keptL t) i f) (h45 : (keptL t)[i]? ≠ some 45) :
  Out t x (plainU t cmp x) i f fun i' g => AfterSt (keptL t) i' f g ∧ g.related = f.related := by
 obtain ⟨r, l⟩ := x
 simp only at h hb hd
 unfold plainU
 simp only
 cases s1 : r.seesOne t 48 57
 case true =>
  rw [if_pos rfl]
  obtain ⟨a1, a2, a3, c, hcc, _⟩ := take_at h s1
  have hdc : dgB c = true := by
   rw [sees_at h, hb, hcc, inR_dg] at s1
   simpa using s1
  have hst : Stp1 (keptL t) i f { f with digits := 1, st := 11 } := ⟨c, hcc, by rw [hu.nx c hcc]; exact unit_dg hdc⟩
  obtain ⟨i', g, b1, b2, b3, b4, b5, b6, b7, b8, b9, b10, b11⟩ := num_spec 17 (r.takeOne t 48 57).1 (r.takeOne t 48 57).2 (i + 1) { f with digits := 1, st := 11 } a1 a2 rfl rfl
  refine ⟨i', g, [⟨1, (r.number t).2⟩], b1, (GoC.one hst).trans b4, rfl, fun e => ?_, fun _ => ⟨⟨⟨b5, b6, done_st (by rw [b8]; decide), fun d _ hdd => next11_no b8 hdd, fun d hd hdd => ?_⟩, b7⟩, ?_, by omega⟩⟩
  ·exact absurd (b2.symm.trans e) (by decide)
  ·rw [next11_dg b8 hdd, b9 d hd hdd]; rfl
  ·refine Sg.number (by omega) b1.le (fun k h1 h2 => ?_) _
   by_cases hk : k = i
   ·subst hk; exact ⟨c, hcc, hdc⟩
   ·exact b11 k (by omega) h2
 case false =>
 rw [if_neg (by decide)]
 cases s2 : r.seesOne t 97 122
 case true =>
  rw [if_pos rfl]
  obtain ⟨a1, a2, a3, c, hcc, _, _, hv⟩ := take_at h s2
  have hnc : nmB c = true := by
   rw [sees_at h, hb, hcc, inR_nm] at s2
   simpa using s2
  have hst : Stp1 (keptL t) i f { f with st := 12 } := ⟨c, hcc, by rw [hu.nx c hcc]; exact unit_nm hnc⟩
  have hn2 := hnc
  simp [nmB] at hn2
  refine ⟨i + 1, { f with st := 12 }, [⟨2, (r.takeOne t 97 122).2⟩], a1, GoC.one hst, rfl, fun e => ?_, fun _ => ⟨⟨⟨rfl, rfl, done_st ⟨by simp, by simp⟩, fun d _ _ => next12 rfl _, fun d _ hdd => ?_⟩, rfl⟩, ?_, by omega⟩⟩
  ·exact absurd (a2.symm.trans e) (by decide)
  ·rw [next12 rfl]; exact after_dg hdd
  ·refine Sg.byte hcc ?_ ?_ (fun _ => ⟨rfl, hv⟩) (fun e => by rw [hnc] at e; cases e)
   ·exact dl_no (by omega) (by omega) (by omega) (by omega)
   ·intro e; subst e; revert hnc; decide
 case false =>
 rw [if_neg (by decide)]
 cases s3 : r.seesOne t 40 40
 case false =>
  rw [if_neg (by decide)]
  refine ⟨i, f, [], ⟨h.pos, h.le⟩, GoC.refl _ _ _, by simp, fun _ => stuck_unit hu fun c hcc => ?_, fun e => by cases e⟩
  refine unit_no ?_ ?_ ?_ ?_
  ·rw [sees_at h, hb, hcc, inR_dg] at s1; simpa using s1
  ·rw [sees_at h, hb, hcc, inR_nm] at s2; simpa using s2
  ·intro e; subst e; exact h45 hcc
  ·intro e; subst e; exact sees_false h hb s3 hcc
 case true =>
  rw [if_pos rfl]
  have hcc := (sees_one h hb 40).mp s3
  obtain ⟨f1, hd1, _⟩ := opening_fit hf s3
  by_cases h8 : f.op.length < 8
  ·-- room
   have hroom : r.room = r := by unfold Rd.room; rw [if_neg (by omega)]
   obtain ⟨a1, a2, a3, _⟩ := take_at h s3
   have hop : r.opening t 40 = { (r.takeOne t 40 40).1 with depth := (r.takeOne t 40 40).1.depth + 1 } := by unfold Rd.opening; rw [hroom]
   have a1' : AtI t (r.opening t 40) (i + 1) := by rw [hop]; exact ⟨a1.pos, a1.le⟩
   have a2' : (r.opening t 40).bad = false := by rw [hop]; exact a2
   generalize hg0 : ({ f with op := (if f.related then 69 else 101) :: f.op, related := false, st := 10 } : Fm) = g0
   have hst : Stp1 (keptL t) i f g0 := ⟨40, hcc, by rw [hu.nx 40 hcc, ← hg0]; exact unit_open h8⟩
   have hgop : g0.op = (if f.related then 69 else 101) :: f.op := by rw [← hg0]
   have hu2 : UnitSt (keptL t) (i + 1) g0 := unit10 (by rw [← hg0]) ⟨40, hcc, by decide⟩
   obtain ⟨i', g, P, b1, b2, b3, b4, b5⟩ := hc (r.opening t 40, l) (i + 1) g0 a1' a2' (by rw [hd1, hgop]; simp; omega) f1 hu2 (by rw [← hg0])
   cases hbb : (cmp (r.opening t 40, l)).1.bad
   ·obtain ⟨⟨ha1, ha2⟩, hsg, hlt⟩ := b5 hbb
    cases s4 : (cmp (r.opening t 40, l)).1.seesOne t 41 41
    ·obtain ⟨e1, _⟩ := fail_at b1 s4
     refine ⟨i', g, P, ?_, (GoC.one hst).trans b2, b3, fun _ => ?_, fun e => ?_⟩
     ·show AtI t (Rd.closing t _ 41) i'
      unfold Rd.closing
      rw [e1]
      exact ⟨b1.pos, b1.le⟩
     ·unfold StuckC
      cases hci : (keptL t)[i']? with
      | none => exact ha1.nd
      | some c =>
       simp only
       cases hdc : dgB c
       ·rw [ha1.nx c hci hdc]
        obtain ⟨hp1, hp2⟩ := ha2 c hci
        by_cases h59 : c = 59
        ·subst h59
         refine after_semi_no ?_
         unfold Fm.paren Fm.top
         rw [ha1.op, hgop]
         cases f.related <;> simp
        ·exact after_no hp1 hp2 h59 (fun e => by subst e; exact sees_false b1 hbb s4 hci)
       ·exact ha1.dg c hci hdc
     ·revert e
      show (Rd.closing t _ 41).bad = false → _
      unfold Rd.closing
      rw [e1]
      intro e; cases e
    ·have hc41 := (sees_one b1 hbb 41).mp s4
     obtain ⟨d1, d2, d3, _⟩ := take_at b1 s4
     generalize hg2 : ({ g with op := f.op, related := f.related, st := 12 } : Fm) = g2
     have hst2 : Stp1 (keptL t) i' g g2 := by
      refine ⟨41, hc41, ?_⟩
      rw [ha1.nx 41 hc41 (by decide)]
      have htop : g.op = (if f.related then 69 else 101) :: f.op := by rw [ha1.op, hgop]
      cases hrel : f.related
      ·rw [hrel] at htop
       rw [after_close_e (by unfold Fm.top; rw [htop]; rfl), ← hg2, htop, hrel]; rfl
      ·rw [hrel] at htop
       rw [after_close_E (by unfold Fm.top; rw [htop]; rfl), ← hg2, htop, hrel]; rfl
     have hg2st : g2.st = 12 := by rw [← hg2]
     refine ⟨i' + 1, g2, P, ?_, ((GoC.one hst).trans b2).trans (GoC.one hst2), b3, fun e => ?_, fun _ => ⟨⟨⟨by rw [← hg2], ?_, done_st (by rw [hg2st]; decide), fun d _ _ => next12 hg2st _, fun d _ hdd => ?_⟩, by rw [← hg2]⟩, Sg.pair hsg hcc hc41 (by decide), by omega⟩⟩
     ·show AtI t (Rd.closing t _ 41) (i' + 1)
      exact ⟨d1.pos, d1.le⟩
     ·revert e
      show (Rd.closing t _ 41).bad = true → _
      unfold Rd.closing
      simp only
      intro e; rw [d2] at e; cases e
     ·rw [← hg2]; show g.body = f.body; rw [ha1.body, ← hg0]
     ·rw [next12 hg2st]; exact after_dg hdd
   ·-- bad within
    have e1 : ((cmp (r.opening t 40, l)).1.takeOne t 41 41).1 = (cmp (r.opening t 40, l)).1 := takeOne_bad hbb 41 41
    refine ⟨i', g, P, ?_, (GoC.one hst).trans b2, b3, fun _ => b4 hbb, fun e => ?_⟩
    ·show AtI t (Rd.closing t _ 41) i'
     unfold Rd.closing
     rw [e1]
     exact ⟨b1.pos, b1.le⟩
    ·revert e
     show (Rd.closing t _ 41).bad = false → _
     unfold Rd.closing
     rw [e1]
     simp only
     intro e; rw [hbb] at e; cases e
  ·-- no room
   have hrb : r.room.bad = true := by unfold Rd.room; rw [if_pos (by omega)]
   have hop : r.opening t 40 = { r.room with depth := r.room.depth + 1 } := by unfold Rd.opening; rw [takeOne_bad hrb]
   have hob : (r.opening t 40).bad = true := by rw [hop]; exact hrb
   have hid : cmp (r.opening t 40, l) = (r.opening t 40, l) := hcb _ hob
   rw [hid]
   have e1 : ((r.opening t 40).takeOne t 41 41).1 = r.opening t 40 := takeOne_bad hob 41 41
   refine ⟨i, f, [], ?_, GoC.refl _ _ _, by simp, fun _ => stuck_unit hu fun c hc2 => ?_, fun e => ?_⟩
   ·show AtI t (Rd.closing t (r.opening t 40) 41) i
    unfold Rd.closing
    rw [e1, hop]
    exact ⟨by show r.room.pos = _; rw [room_pos]; exact h.pos, h.le⟩
   ·rw [hcc] at hc2
    cases hc2
    exact unit_full h8
   ·revert e
    show (Rd.closing t (r.opening t 40) 41).bad = false → _
    unfold Rd.closing
    rw [e1]
    simp only
    intro e; rw [hob] at e; cases e
end Go.Proofs.YtdgmoiflahoihaaGreatDoor
namespace Go.Proofs.YtdgmoiflahoihaaGreatDoor
set_option linter.unusedSimpArgs false
set_option linter.unusedVariables false
theorem nmBits_negs (k : Nat) : nmBits (negs k) = 0 := by
 induction k with
 | zero => rfl
 | succ k ih => simp [negs, List.replicate_succ, nmBits] at ih ⊢; exact ih
theorem kept_le : ∀ (l : List UInt8), (keptL l).length ≤ l.length
 | [] => Nat.le_refl _
 | c :: r => by
  have := kept_le r
  unfold keptL
  split <;> simp <;> omega
def InSpec (t : List UInt8) (n : Nat) (F : RP → RP) (T : UInt8 → Bool) : Prop := ∀ (x : RP) (i : Nat) (f : Fm), AtI t x.1 i → x.1.bad = false → x.1.depth = f.op.length → Fit t (n + 1) x → UnitSt (keptL t) i f →
 Out t x (F x) i f fun i' g => AfterSt (keptL t) i' f g ∧ g.related = f.related ∧ ∀ c, (keptL t)[i']? = some c → T c = false
theorem unit_spec {t : List UInt8} {n : Nat} {cmp : RP → RP} (hc : CmpSpec t n cmp) (ha : CmpAdv t n cmp) (hcb : CmpBad cmp) : InSpec t n (unitU t cmp) (fun _ => false) := by
 intro x i f h hb hd hf hu
 obtain ⟨r, l⟩ := x
 have hk := kept_le t
 obtain ⟨i1, g1, b1, b2, b3, b4, b5, b6, b7, b8, b9, b10⟩ := minus_spec (t.length + 1) r i f h hb hu (by omega)
 have km := minusF_adv (l := l) (t.length + 1) r hf.le
 have km2 : Adv t (r, l) ((minusF t (t.length + 1) r).1, l) := ⟨km.pos, km.le, by have := km.pos; simp only at this ⊢; omega, km.depth, km.bad⟩
 obtain ⟨i2, g2, P, c1, c2, c3, c4, c5⟩ := plain_spec hc ha hcb ((minusF t (t.length + 1) r).1, l) i1 g1 b1 b2 (by rw [b6]; exact b3.trans hd) (km2.fit hf) b5 b9
 refine ⟨i2, g2, P ++ negs (minusF t (t.length + 1) r).2, c1, b4.trans c2, ?_, c4, fun e => ?_⟩
 ·show (plainU t cmp ((minusF t (t.length + 1) r).1, l)).2 ++ negs _ = l ++ (P ++ negs _)
  rw [c3]; simp
 ·obtain ⟨⟨q1, q2⟩, q3, q4⟩ := c5 e
  have hle := b10.le
  refine ⟨⟨⟨q1.op.trans b6, q1.body.trans b7, q1.nd, q1.nx, q1.dg⟩, q2.trans b8, fun _ _ => rfl⟩, ?_, by omega⟩
  refine b10.cat q3 (by simp; omega) ?_ ?_ (.inr fun hlt => b5.pv (by omega))
  ·rw [nmBits_app, nmBits_negs]; simp
  ·intro p hp
   rcases List.mem_append.mp hp with h | h
   ·exact .inr h
   ·exact .inl h
theorem unit_bad_in {t : List UInt8} {cmp : RP → RP} : CmpBad (unitU t cmp) := fun x h => unitU_bad h
def OpSpec (t : List UInt8) (opf : Rd → Rd × Int) (S : UInt8 → Bool) : Prop := ∀ (r : Rd) (i : Nat), AtI t r i → r.bad = false →
 (∃ c, (keptL t)[i]? = some c ∧ S c = true ∧ AtI t (opf r).1 (i + 1) ∧ (opf r).1.bad = false ∧ (opf r).1.depth = r.depth ∧ (opf r).2 ≠ 0 ∧ (opf r).2 ≠ 2) ∨ (opf r = (r, 0) ∧ ∀ c, (keptL t)[i]? = some c → S c = false)
theorem oper_spec {t : List UInt8} (a b : UInt8) (p q : Int) (hp : p ≠ 0 ∧ p ≠ 2) (hq : q ≠ 0 ∧ q ≠ 2) : OpSpec t (fun r => r.oper t a p b q) (fun c => c == a || c == b) := by
 intro r i h hb
 unfold Rd.oper
 simp only
 cases s1 : r.seesOne t a a
 ·cases s2 : r.seesOne t b b
  ·right
   rw [if_neg (by decide), if_neg (by decide)]
   refine ⟨rfl, fun c hc => ?_⟩
   have h1 := sees_false h hb s1
   have h2 := sees_false h hb s2
   rw [hc] at h1 h2
   simp at h1 h2
   simp [h1, h2]
  ·left
   simp only [Bool.false_eq_true, if_false, if_true]
   obtain ⟨a1, a2, a3, _⟩ := take_at h s2
   exact ⟨b, (sees_one h hb b).mp s2, by simp, a1, a2, a3, hq.1, hq.2⟩
 ·left
  simp only [if_true]
  obtain ⟨a1, a2, a3, _⟩ := take_at h s1
  exact ⟨a, (sees_one h hb a).mp s1, by simp, a1, a2, a3, hp.1, hp.2⟩
def prodB (c : UInt8) : Bool := c == 37 || (c == 42 || c == 47)
theorem prodOper_spec {t : List UInt8} : OpSpec t (fun r => r.prodOper t) prodB := by
 intro r i h hb
 unfold Rd.prodOper
 simp only
 cases s1 : r.seesOne t 37 37
 ·simp only [Bool.false_eq_true, if_false]
  have h1 := sees_false h hb s1
  rcases oper_spec (t := t) 42 47 6 7 (by decide) (by decide) r i h hb with ⟨c, k1, k2, k3⟩ | ⟨k1, k2⟩
  ·exact .inl ⟨c, k1, by simp only at k2; unfold prodB; rw [k2]; simp, k3⟩
  ·refine .inr ⟨k1, fun c hc => ?_⟩
   have := k2 c hc
   simp only at this
   rw [hc] at h1
   simp at h1
   unfold prodB
   rw [this]
   simp [h1]
 ·left
  simp only [if_true]
  obtain ⟨a1, a2, a3, _⟩ := take_at h s1
  exact ⟨37, (sees_one h hb 37).mp s1, by decide, a1, a2, a3, by decide, by decide⟩
def loopG (opf : Rd → Rd × Int) (F : RP → RP) : Nat → RP → RP
 | 0, x => x
 | k + 1, x => if (opf x.1).2 = 0 then ((opf x.1).1, x.2) else loopG opf F k ((F ((opf x.1).1, x.2)).1, (F ((opf x.1).1, x.2)).2 ++ [⟨(opf x.1).2, 0⟩])
theorem prodL_loop (t : List UInt8) (cmp : RP → RP) : ∀ k x, prodL t cmp k x = loopG (fun r => r.prodOper t) (unitU t cmp) k x
 | 0, x => rfl
 | k + 1, x => by
  unfold prodL loopG
  simp only
  split
  ·rfl
  ·exact prodL_loop t cmp k _
theorem sumL_loop (t : List UInt8) (cmp : RP → RP) : ∀ k x, sumL t cmp k x = loopG (fun r => r.oper t 43 4 45 5) (prodU t cmp) k x
 | 0, x => rfl
 | k + 1, x => by
  unfold sumL loopG
  simp only
  split
  ·rfl
  ·exact sumL_loop t cmp k _
theorem op_dl {c : UInt8} (h : opB c = true) : dl c = 0 ∧ c ≠ 59 ∧ nmB c = false ∧ dgB c = false := by
 simp [opB] at h
 rcases h with (((rfl | rfl) | rfl) | rfl) | rfl <;> decide
theorem loop_spec {t : List UInt8} {n : Nat} {opf : Rd → Rd × Int} {F : RP → RP} {S T : UInt8 → Bool} (hS : ∀ c, S c = true → opB c = true) (ho : OpSpec t opf S) (hF : InSpec t n F T) (hFa : ∀ x, Fit t (n + 1) x → Adv t x (F x)) (hFb : CmpBad F) (hob : ∀ r, r.bad = true → opf r = (r, 0))
  (x0 : RP) (i0 : Nat) (f : Fm) : ∀ (k : Nat) (x : RP) (i : Nat) (g : Fm) (P : List Pt), AtI t x.1 i → x.1.bad = false → x.1.depth = f.op.length → Fit t (n + 1) x → GoC (keptL t) i0 f i g → x.2 = x0.2 ++ P → Sg (keptL t) i0 i P → i0 < i → AfterSt (keptL t) i f g → g.related = f.related → (∀ c, (keptL t)[i]? = some c → T c = false) → (keptL t).length - i < k →
  Out t x0 (loopG opf F k x) i0 f fun i' g' => AfterSt (keptL t) i' f g' ∧ g'.related = f.related ∧ ∀ c, (keptL t)[i']? = some c → T c = false ∧ S c = false
 | 0, x, i, g, P, h, hb, hd, hf, hgo, hx, hsg, hlt, hA, hr, hT, hk => by omega
 | k + 1, x, i, g, P, h, hb, hd, hf, hgo, hx, hsg, hlt, hA, hr, hT, hk => by
  unfold loopG
  rcases ho x.1 i h hb with ⟨c, k1, k2, k3, k4, k5, k6, k7⟩ | ⟨k1, k2⟩
  ·rw [if_neg k6]
   have hopc := hS c k2
   have hod := op_dl hopc
   have hst : Stp1 (keptL t) i g { g with st := 10 } := ⟨c, k1, by rw [hA.nx c k1 hod.2.2.2]; exact after_op hopc⟩
   have hu : UnitSt (keptL t) (i + 1) { g with st := 10 } := unit10 rfl ⟨c, k1, hod.2.2.2⟩
   have hil := (List.getElem?_eq_some_iff.mp k1).1
   have hadv : Adv t x ((opf x.1).1, x.2) := by
    have hp1 : x.1.pos ≤ (opf x.1).1.pos := by
     rw [h.pos, k3.pos]
     have h2 := (posL_facts t 0 i hil).2.2.1
     unfold posI
     rw [← h2]
     exact Nat.le_trans (Nat.le_succ _) (skipL_le _ _).1
    have hp2 : (opf x.1).1.pos ≤ t.length := by
     rw [k3.pos]
     by_cases hi1 : i + 1 < (keptL t).length
     ·have := (posL_facts t 0 (i + 1) hi1).1; unfold posI; omega
     ·rw [posI_end (by omega)]; exact Nat.le_refl _
    exact ⟨hp1, hp2, by simp only; omega, k5, fun e => by rw [hb] at e; cases e⟩
   obtain ⟨i2, g2, P2, c1, c2, c3, c4, c5⟩ := hF ((opf x.1).1, x.2) (i + 1) { g with st := 10 } k3 k4 (by rw [k5, hd]; simp only [hA.op]) (hadv.fit hf) hu
   have hFadv := hFa ((opf x.1).1, x.2) (hadv.fit hf)
   cases hbb : (F ((opf x.1).1, x.2)).1.bad
   ·obtain ⟨⟨q1, q2, q3⟩, q4, q5⟩ := c5 hbb
    have hby : Sg (keptL t) i (i + 1) [⟨(opf x.1).2, 0⟩] := Sg.byte k1 hod.1 hod.2.1 (fun e => by rw [hod.2.2.1] at e; cases e) (fun _ => k7)
    have s1 := hsg.cat hby (R := P ++ [⟨(opf x.1).2, 0⟩]) (by simp) (nmBits_app _ _) (fun p hp => List.mem_append.mp hp) (.inl ⟨c, k1, hod.2.2.2⟩)
    have hbit : nmBits [(⟨(opf x.1).2, 0⟩ : Pt)] = 0 := by simp [nmBits, k7]
    have s2 := s1.cat q4 (R := P ++ P2 ++ [⟨(opf x.1).2, 0⟩]) (by simp; omega) (by rw [nmBits_app, nmBits_app, nmBits_app, hbit]; simp) (fun p hp => by
     rcases List.mem_append.mp hp with h | h
     ·rcases List.mem_append.mp h with h | h
      ·exact .inl (List.mem_append.mpr (.inl h))
      ·exact .inr h
     ·exact .inl (List.mem_append.mpr (.inr h))) (.inr fun _ => ⟨c, by simpa using k1, hod.2.2.2⟩)
    refine loop_spec hS ho hF hFa hFb hob x0 i0 f k _ i2 g2 (P ++ P2 ++ [⟨(opf x.1).2, 0⟩]) c1 hbb ?_ ?_ ((hgo.trans (GoC.one hst)).trans c2) ?_ s2 (by omega) ⟨q1.op.trans hA.op, q1.body.trans hA.body, q1.nd, q1.nx, q1.dg⟩ (q2.trans hr) q3 (by omega)
    ·simp only; rw [hFadv.depth, k5]; exact hd
    ·have fF := hFadv.fit (hadv.fit hf)
     have hl2 := hFadv.len
     have hl1 := hf.len
     have hpp : x.1.pos + 1 ≤ (opf x.1).1.pos := by
      rw [h.pos, k3.pos]
      have h2 := (posL_facts t 0 i hil).2.2.1
      unfold posI
      rw [← h2]
      exact (skipL_le _ _).1
     exact ⟨fF.le, by simp only [List.length_append, List.length_cons, List.length_nil] at hl2 ⊢; omega, fF.d0, fF.d9, fF.db, fF.fuel⟩
    ·rw [c3, hx]; simp
   ·have hL : ∀ k y, y.1.bad = true → loopG opf F k y = y := by
     intro k y hy
     cases k with
     | zero => rfl
     | succ k => unfold loopG; rw [hob y.1 hy]; simp
    have e9 := hL k ((F ((opf x.1).1, x.2)).1, (F ((opf x.1).1, x.2)).2 ++ [(⟨(opf x.1).2, 0⟩ : Pt)]) hbb
    rw [e9]
    refine ⟨i2, g2, P ++ (P2 ++ [⟨(opf x.1).2, 0⟩]), c1, (hgo.trans (GoC.one hst)).trans c2, ?_, fun _ => c4 hbb, fun e => ?_⟩
    ·simp only; rw [c3, hx]; simp
    ·simp only at e; rw [hbb] at e; cases e
  ·rw [k1]
   simp only [if_true]
   exact ⟨i, g, P, h, hgo, hx, fun e => (by simp only at e; rw [hb] at e; cases e), fun _ => ⟨⟨hA, hr, fun c hc => ⟨hT c hc, k2 c hc⟩⟩, hsg, hlt⟩⟩
theorem after_loop {t : List UInt8} {n : Nat} {opf : Rd → Rd × Int} {F : RP → RP} {S T : UInt8 → Bool} (hS : ∀ c, S c = true → opB c = true) (ho : OpSpec t opf S) (hF : InSpec t n F T) (hFa : ∀ x, Fit t (n + 1) x → Adv t x (F x)) (hFb : CmpBad F) (hob : ∀ r, r.bad = true → opf r = (r, 0)) :
  InSpec t n (fun x => loopG opf F (t.length + 1) (F x)) (fun c => T c || S c) := by
 intro x i f h hb hd hf hu
 have hk := kept_le t
 obtain ⟨i1, g1, P, c1, c2, c3, c4, c5⟩ := hF x i f h hb hd hf hu
 have hadv := hFa x hf
 cases hbb : (F x).1.bad
 ·obtain ⟨⟨q1, q2, q3⟩, q4, q5⟩ := c5 hbb
  obtain ⟨i2, g2, P2, d1, d2, d3, d4, d5⟩ := loop_spec hS ho hF hFa hFb hob x i f (t.length + 1) (F x) i1 g1 P c1 hbb (by rw [hadv.depth]; exact hd) (hadv.fit hf) c2 c3 q4 q5 q1 q2 q3 (by omega)
  refine ⟨i2, g2, P2, d1, d2, d3, d4, fun e => ?_⟩
  obtain ⟨⟨e1, e2, e3⟩, e4, e5⟩ := d5 e
  exact ⟨⟨e1, e2, fun c hc => by simp only; rw [(e3 c hc).1, (e3 c hc).2]; rfl⟩, e4, e5⟩
 ·have hL : ∀ k y, y.1.bad = true → loopG opf F k y = y := by
   intro k y hy
   cases k with
   | zero => rfl
   | succ k => unfold loopG; rw [hob y.1 hy]; simp
  show Out t x (loopG opf F (t.length + 1) (F x)) i f _
  rw [hL _ _ hbb]
  exact ⟨i1, g1, P, c1, c2, c3, c4, fun e => (by rw [hbb] at e; cases e)⟩
theorem prod_spec {t : List UInt8} {n : Nat} {cmp : RP → RP} (hc : CmpSpec t n cmp) (ha : CmpAdv t n cmp) (hcb : CmpBad cmp) : InSpec t n (prodU t cmp) prodB := by
 have := after_loop (t := t) (n := n) (opf := fun r => r.prodOper t) (F := unitU t cmp) (S := prodB) (T := fun _ => false) (fun c h => by
  simp [prodB] at h
  rcases h with rfl | rfl | rfl <;> decide) prodOper_spec (unit_spec hc ha hcb) (fun x hx => unitU_adv ha hx) unit_bad_in (fun r h => prodOper_bad h)
 intro x i f h hb hd hf hu
 have k := this x i f h hb hd hf hu
 simp only [Bool.false_or] at k
 unfold prodU
 rw [prodL_loop]
 exact k
def sumB (c : UInt8) : Bool := c == 43 || c == 45
theorem sum_spec {t : List UInt8} {n : Nat} {cmp : RP → RP} (hc : CmpSpec t n cmp) (ha : CmpAdv t n cmp) (hcb : CmpBad cmp) : InSpec t n (sumU t cmp) opB := by
 have := after_loop (t := t) (n := n) (opf := fun r => r.oper t 43 4 45 5) (F := prodU t cmp) (S := sumB) (T := prodB) (fun c h => by
  simp [sumB] at h
  rcases h with rfl | rfl <;> decide) (oper_spec 43 45 4 5 (by decide) (by decide)) (prod_spec hc ha hcb) (fun x hx => prodU_adv ha hx) (fun x h => prodU_bad h) (fun r h => oper_bad h _ _ _ _)
 intro x i f h hb hd hf hu
 obtain ⟨i', g, P, k1, k2, k3, k4, k5⟩ := this x i f h hb hd hf hu
 refine ⟨i', g, P, ?_, k2, ?_, ?_, ?_⟩
 ·unfold sumU; rw [sumL_loop]; exact k1
 ·unfold sumU; rw [sumL_loop]; exact k3
 ·unfold sumU; rw [sumL_loop]; exact k4
 ·unfold sumU; rw [sumL_loop]
  intro e
  obtain ⟨⟨e1, e2, e3⟩, e4⟩ := k5 e
  refine ⟨⟨e1, e2, fun c hc => ?_⟩, e4⟩
  have := e3 c hc
  simp [prodB, sumB] at this
  simp [opB, this]
theorem cmp_spec {t : List UInt8} {n : Nat} {cmp : RP → RP} (hc : CmpSpec t n cmp) (ha : CmpAdv t n cmp) (hcb : CmpBad cmp) : CmpSpec t (n + 1) (cmpU t cmp) := by
 intro x i f h hb hd hf hu hr
 obtain ⟨i1, g1, P, c1, c2, c3, c4, c5⟩ := sum_spec hc ha hcb x i f h hb hd hf hu
 have hadv := sumU_adv ha hf
 unfold cmpU
 simp only
 cases hbb : (sumU t cmp x).1.bad
 case true =>
  rw [oper_bad hbb]
  simp only [if_true]
  exact ⟨i1, g1, P, c1, c2, c3, c4, fun e => (by simp only at e; rw [hbb] at e; cases e)⟩
 case false =>
 obtain ⟨⟨q1, q2, q3⟩, q4, q5⟩ := c5 hbb
 rcases oper_spec (t := t) 60 61 9 10 (by decide) (by decide) (sumU t cmp x).1 i1 c1 hbb with ⟨c, k1, k2, k3, k4, k5, k6, k7⟩ | ⟨k1, k2⟩
 ·simp only at k3 k4 k5 k6 k7
  rw [if_neg k6]
  have hc60 : c = 60 ∨ c = 61 := by simpa using k2
  have hcd : dgB c = false ∧ dl c = 0 ∧ c ≠ 59 ∧ nmB c = false := by rcases hc60 with rfl | rfl <;> decide
  have hil := (List.getElem?_eq_some_iff.mp k1).1
  generalize hg0 : ({ g1 with related := true, st := 10 } : Fm) = g0
  have hst : Stp1 (keptL t) i1 g1 g0 := ⟨c, k1, by rw [q1.nx c k1 hcd.1, ← hg0]; exact after_rel hc60 (q2.trans hr)⟩
  have hu2 : UnitSt (keptL t) (i1 + 1) g0 := unit10 (by rw [← hg0]) ⟨c, k1, hcd.1⟩
  have hadv2 : Adv t (sumU t cmp x) ((Rd.oper t (sumU t cmp x).1 60 9 61 10).1, (sumU t cmp x).2) := by
   have hp1 : (sumU t cmp x).1.pos ≤ (Rd.oper t (sumU t cmp x).1 60 9 61 10).1.pos := by
    rw [c1.pos, k3.pos]
    have h2 := (posL_facts t 0 i1 hil).2.2.1
    unfold posI
    rw [← h2]
    exact Nat.le_trans (Nat.le_succ _) (skipL_le _ _).1
   have hp2 : (Rd.oper t (sumU t cmp x).1 60 9 61 10).1.pos ≤ t.length := by
    rw [k3.pos]
    by_cases hi1 : i1 + 1 < (keptL t).length
    ·have := (posL_facts t 0 (i1 + 1) hi1).1; unfold posI; omega
    ·rw [posI_end (by omega)]; exact Nat.le_refl _
   exact ⟨hp1, hp2, by simp only; omega, k5, fun e => by rw [hbb] at e; cases e⟩
  have hgop : g0.op = f.op := by rw [← hg0]; exact q1.op
  obtain ⟨i2, g2, P2, d1, d2, d3, d4, d5⟩ := sum_spec hc ha hcb ((Rd.oper t (sumU t cmp x).1 60 9 61 10).1, (sumU t cmp x).2) (i1 + 1) g0 k3 k4 (by rw [hgop]; simp only; rw [k5, hadv.depth]; exact hd) (hadv2.fit (hadv.fit hf)) hu2
  refine ⟨i2, g2, P ++ (P2 ++ [⟨(Rd.oper t (sumU t cmp x).1 60 9 61 10).2, 0⟩]), d1, (c2.trans (GoC.one hst)).trans d2, ?_, d4, fun e => ?_⟩
  ·simp only; rw [d3, c3]; simp
  ·obtain ⟨⟨e1, e2, e3⟩, e4, e5⟩ := d5 e
   have hby : Sg (keptL t) i1 (i1 + 1) [⟨(Rd.oper t (sumU t cmp x).1 60 9 61 10).2, 0⟩] := Sg.byte k1 hcd.2.1 hcd.2.2.1 (fun e => by rw [hcd.2.2.2] at e; cases e) (fun _ => k7)
   have hbit : nmBits [(⟨(Rd.oper t (sumU t cmp x).1 60 9 61 10).2, 0⟩ : Pt)] = 0 := by simp [nmBits, k7]
   have s1 := q4.cat hby (R := P ++ [⟨(Rd.oper t (sumU t cmp x).1 60 9 61 10).2, 0⟩]) (by simp) (nmBits_app _ _) (fun p hp => List.mem_append.mp hp) (.inl ⟨c, k1, hcd.1⟩)
   refine ⟨⟨⟨e1.op.trans hgop, e1.body.trans (by rw [← hg0]; exact q1.body), e1.nd, e1.nx, e1.dg⟩, fun d hd2 => ⟨e3 d hd2, fun _ => by rw [e2, ← hg0]⟩⟩, ?_, by omega⟩
   refine s1.cat e4 (by simp; omega) (by rw [nmBits_app, nmBits_app, nmBits_app, hbit]; simp) (fun p hp => ?_) (.inr fun _ => ⟨c, by simpa using k1, hcd.1⟩)
   rcases List.mem_append.mp hp with h | h
   ·exact .inl (List.mem_append.mpr (.inl h))
   ·rcases List.mem_append.mp h with h | h
    ·exact .inr h
    ·exact .inl (List.mem_append.mpr (.inr h))
 ·simp only at k1
  rw [k1]
  simp only [if_true]
  refine ⟨i1, g1, P, c1, c2, c3, fun e => (by simp only at e; rw [hbb] at e; cases e), fun _ => ⟨⟨q1, fun d hd2 => ⟨q3 d hd2, fun e => ?_⟩⟩, q4, q5⟩⟩
  have := k2 d hd2
  rcases e with rfl | rfl <;> simp at this
theorem cmpF_bad (t : List UInt8) : ∀ n, CmpBad (cmpF t n)
 | 0 => fun x _ => rfl
 | n + 1 => fun x h => cmpU_bad h
theorem cmpF_spec (t : List UInt8) : ∀ n, CmpSpec t n (cmpF t n)
 | 0 => fun x i f h hb hd hf => by have := hf.fuel; have := hf.d9; omega
 | n + 1 => cmp_spec (cmpF_spec t n) (cmpF_adv t n) (cmpF_bad t n)
end Go.Proofs.YtdgmoiflahoihaaGreatDoor
