import Derived.Test.YtdgmoiflahoihaaGreatDoorPEvw

namespace Go.Proofs.YtdgmoiflahoihaaGreatDoor
set_option linter.unusedSimpArgs false
set_option linter.unusedVariables false
theorem next0 {f : Fm} (h : f.st = 0) (c : Int) : f.next c = f.rule c := by unfold Fm.next; simp [h]
theorem next1 {f : Fm} (h : f.st = 1) {c : UInt8} (hc : c ≠ 123) : f.next (c.toNat : Int) = f.rule (c.toNat : Int) := by
 have k := u8_nat hc
 simp at k
 unfold Fm.next
 simp [h]
 intro e
 omega
theorem next_fixed {f : Fm} (h : f.st = 2 ∨ f.st = 3 ∨ f.st = 4 ∨ f.st = 5 ∨ f.st = 6 ∨ f.st = 13 ∨ f.st = 14) (c : Int) : f.next c = f.fixed c := by
 unfold Fm.next
 rcases h with h | h | h | h | h | h | h <;> simp [h]
structure RuleSt (C : List UInt8) (i : Nat) (f : Fm) : Prop where
 st : f.st = 0 ∨ (f.st = 1 ∧ C[i]? ≠ some 123)
 hd : f.body = true ∨ (C[i]? ≠ some 63 ∧ C[i]? ≠ some 33)
 pr : f.paren = false
 sh : C[i]? ≠ some 125 ∨ f.op = []
 nd : C[i]? = none → f.done = false
theorem RuleSt.nx {C : List UInt8} {i : Nat} {f : Fm} (h : RuleSt C i f) {c : UInt8} (hc : C[i]? = some c) : f.next (c.toNat : Int) = f.rule (c.toNat : Int) := by
 rcases h.st with h1 | ⟨h1, h2⟩
 ·exact next0 h1 _
 ·exact next1 h1 (fun e => h2 (by rw [hc, e]))
theorem rule_body {f : Fm} {c : UInt8} (h1 : f.body = true ∨ (c ≠ 63 ∧ c ≠ 33)) (h2 : c ≠ 125 ∨ f.op = []) : f.rule (c.toNat : Int) =
  (let f := { f with body := true, related := false }
  if isNm (c.toNat : Int) = true then f.to 2
  else if (c.toNat : Int) = 94 then f.to 3
  else if (c.toNat : Int) = 62 then { f with purpose := 2 }.to 7
  else if (c.toNat : Int) = 40 ∧ f.op.length < 8 then { f with op := 99 :: f.op }.to 10
  else if (c.toNat : Int) = 42 ∧ f.op.length < 8 then f.to 13
  else (f, false)) := by
 have e1 : ¬ (((c.toNat : Int) = 63 ∨ (c.toNat : Int) = 33) ∧ f.body = false) := by
  rintro ⟨ha, hb⟩
  rcases h1 with h1 | ⟨h1, h3⟩
  ·rw [h1] at hb; cases hb
  ·have := u8_nat h1
   have := u8_nat h3
   simp at *
   omega
 have ht : c ≠ 125 ∨ f.top = 0 := h2.imp id (fun e => by unfold Fm.top; rw [e]; rfl)
 have e2 : ¬ ((c.toNat : Int) = 125 ∧ f.top = 49) := by
  rintro ⟨ha, hb⟩
  rcases ht with h | h
  ·have := u8_nat h; simp at this; omega
  ·rw [h] at hb; revert hb; decide
 have e3 : ¬ ((c.toNat : Int) = 125 ∧ (f.top = 50 ∨ f.top = 108)) := by
  rintro ⟨ha, hb⟩
  rcases ht with h | h
  ·have := u8_nat h; simp at this; omega
  ·rw [h] at hb; revert hb; decide
 unfold Fm.rule
 rw [if_neg e1, if_neg e2, if_neg e3]
def Rz (t : List UInt8) (r : Rd) (i : Nat) (f : Fm) (Q : Nat → Fm → Prop) : Prop :=
 ∃ i' g, AtI t r i' ∧ GoC (keptL t) i f i' g ∧ (r.bad = true → StuckC (keptL t) i' g) ∧ (r.bad = false → Q i' g)
theorem Rz.bind {t : List UInt8} {r1 r2 : Rd} {i : Nat} {f : Fm} {Q1 Q2 : Nat → Fm → Prop} (h : Rz t r1 i f Q1) (hb : r1.bad = true → r2.pos = r1.pos ∧ r2.bad = true)
  (k : ∀ i' g, AtI t r1 i' → r1.bad = false → Q1 i' g → Rz t r2 i' g Q2) : Rz t r2 i f Q2 := by
 obtain ⟨i1, g1, a1, a2, a3, a4⟩ := h
 cases hbb : r1.bad
 ·obtain ⟨i2, g2, b1, b2, b3, b4⟩ := k i1 g1 a1 hbb (a4 hbb)
  exact ⟨i2, g2, b1, a2.trans b2, b3, b4⟩
 ·obtain ⟨e1, e2⟩ := hb hbb
  exact ⟨i1, g1, ⟨e1.trans a1.pos, a1.le⟩, a2, fun _ => a3 hbb, fun e => by rw [e2] at e; cases e⟩
theorem take_res {t : List UInt8} {r : Rd} {i : Nat} {f : Fm} (h : AtI t r i) (hb : r.bad = false) (k : UInt8) (g : Fm) (hy : (keptL t)[i]? = some k → f.next (k.toNat : Int) = (g, true)) (hn : (keptL t)[i]? ≠ some k → StuckC (keptL t) i f) :
  Rz t (r.takeOne t k k).1 i f fun i' g' => i' = i + 1 ∧ g' = g ∧ (keptL t)[i]? = some k := by
 cases hs : r.seesOne t k k
 ·obtain ⟨e, _⟩ := fail_at h hs
  rw [e]
  exact ⟨i, f, ⟨h.pos, h.le⟩, GoC.refl _ _ _, fun _ => hn (sees_false h hb hs), fun e => by cases e⟩
 ·have hc := (sees_one h hb k).mp hs
  obtain ⟨a1, a2, a3, _⟩ := take_at h hs
  exact ⟨i + 1, g, a1, GoC.one ⟨k, hc, hy hc⟩, fun e => (by rw [a2] at e; cases e), fun _ => ⟨rfl, rfl, hc⟩⟩
theorem name_res {t : List UInt8} {r : Rd} {i : Nat} {f : Fm} (h : AtI t r i) (hb : r.bad = false) (g : Fm) (hy : ∀ c, (keptL t)[i]? = some c → nmB c = true → f.next (c.toNat : Int) = (g, true)) (hn : (∀ c, (keptL t)[i]? = some c → nmB c = false) → StuckC (keptL t) i f) :
  Rz t (r.takeOne t 97 122).1 i f fun i' g' => i' = i + 1 ∧ g' = g ∧ ∃ c, (keptL t)[i]? = some c ∧ nmB c = true ∧ (r.takeOne t 97 122).2 = (c.toNat : Int) - 97 := by
 cases hs : r.seesOne t 97 122
 ·obtain ⟨e, _⟩ := fail_at h hs
  rw [e]
  refine ⟨i, f, ⟨h.pos, h.le⟩, GoC.refl _ _ _, fun _ => hn fun c hc => ?_, fun e => by cases e⟩
  rw [sees_at h, hb, hc, inR_nm] at hs
  simpa using hs
 ·obtain ⟨a1, a2, a3, c, hc, _, _, hv⟩ := take_at h hs
  have hnc : nmB c = true := by
   rw [sees_at h, hb, hc, inR_nm] at hs
   simpa using hs
  exact ⟨i + 1, g, a1, GoC.one ⟨c, hc, hy c hc hnc⟩, fun e => (by rw [a2] at e; cases e), fun _ => ⟨rfl, rfl, c, hc, hnc, hv⟩⟩
theorem stuck_fixed {C : List UInt8} {i : Nat} {f : Fm} (h : f.st = 2 ∨ f.st = 3 ∨ f.st = 4 ∨ f.st = 5 ∨ f.st = 6 ∨ f.st = 13 ∨ f.st = 14) (hn : ∀ c, C[i]? = some c → (f.fixed (c.toNat : Int)).2 = false) : StuckC C i f := by
 unfold StuckC
 cases hc : C[i]? with
 | none => exact done_st (by rcases h with h | h | h | h | h | h | h <;> rw [h] <;> decide)
 | some c => simp only; rw [next_fixed h]; exact hn c hc
theorem expr_res {t : List UInt8} {r : Rd} {i : Nat} {f : Fm} (h : AtI t r i) (hb : r.bad = false) (hd : r.depth = f.op.length) (hf : FitR t r) (hu : UnitSt (keptL t) i f) (hr : f.related = false) :
  Rz t (exprU t r).1 i f fun i' g => AfterSt (keptL t) i' f g ∧ (∀ c, (keptL t)[i']? = some c → opB c = false ∧ ((c = 60 ∨ c = 61) → g.related = true)) ∧ Sg (keptL t) i i' (exprU t r).2 ∧ i < i' ∧ ∃ s, EvH (keptL t) i i' s (exprU t r).2 := by
 obtain ⟨i', g, P, b1, b2, b3, b4, b5⟩ := cmpF_spec t 10 (r, []) i f h hb hd hf.fit hu hr
 refine ⟨i', g, b1, b2, b4, fun e => ?_⟩
 obtain ⟨⟨q1, q2⟩, q3, q4⟩ := b5 e
 have h8 : r.depth ≤ 8 := by
  obtain ⟨_, _, f9, fb⟩ := hf
  rcases Int.lt_or_le r.depth 9 with k | k
  ·omega
  ·have := fb (by omega)
   rw [hb] at this
   cases this
 obtain ⟨i2, s, v1, v2⟩ := exprU_v h hb hf.d0 h8 e
 obtain rfl := at_inj v1 b1
 have hv : ∃ s, EvH (keptL t) i i2 s (exprU t r).2 := ⟨s, v2⟩
 have : (exprU t r).2 = P := by unfold exprU; simpa using b3
 rw [this] at hv ⊢
 exact ⟨q1, q2, q3, q4, hv⟩
theorem exprU_bad {t : List UInt8} {r : Rd} (h : r.bad = true) : exprU t r = (r, []) := cmpF_bad t 10 (r, []) h
theorem semi_res {t : List UInt8} {r : Rd} {i : Nat} {f g : Fm} (h : AtI t r i) (hb : r.bad = false) (ha : AfterSt (keptL t) i f g) (hn : ∀ c, (keptL t)[i]? = some c → opB c = false ∧ ((c = 60 ∨ c = 61) → g.related = true)) (hp : f.paren = false) :
  Rz t (r.takeOne t 59 59).1 i g fun i' g' => i' = i + 1 ∧ g' = { g with st := 0 } ∧ (keptL t)[i]? = some 59 := by
 have hp2 : g.paren = false := by
  unfold Fm.paren Fm.top at hp ⊢
  rw [ha.op]; exact hp
 refine take_res h hb 59 { g with st := 0 } (fun hc => ?_) (fun hc => ?_)
 ·rw [ha.nx 59 hc (by decide)]; exact after_semi hp2
 ·unfold StuckC
  cases hci : (keptL t)[i]? with
  | none => exact ha.nd
  | some c =>
   simp only
   cases hdc : dgB c
   ·rw [ha.nx c hci hdc]
    obtain ⟨k1, k2⟩ := hn c hci
    by_cases h41 : c = 41
    ·subst h41; exact after_close_no hp2
    ·exact after_no k1 k2 (fun e => by subst e; exact hc hci) h41
   ·exact ha.dg c hci hdc
structure CutOne {α : Type} (C : List UInt8) (A : List Int) (rows : Nat → Nat → List α → Prop) (i o : Nat) (q : Core × List α × List α) : Prop where
 over : overC C i = some o
 rest : ∃ e, restC C i = some e ∧ e.lo ≤ e.hi ∧ e.hi ≤ C.length ∧ sizeC C e.lo e.hi = q.1.parts.length ∧ namesC C e.lo e.hi = nmBits q.1.parts ∧ e.name = (if q.1.kind = 0 ∨ q.1.kind = 1 then q.1.name else -1) ∧ e.label = (if q.1.kind = 1 ∨ q.1.kind = 2 then (q.1.label : Int) else -1)
 blocks : ∃ t, blocksC C i = some t ∧ rows t.p t.q q.2.1 ∧ rows t.r t.s q.2.2
 byte : ∃ c, C[i]? = some c ∧ (c = 42 ↔ q.1.kind = 4) ∧ (c = 40 ↔ q.1.kind = 3) ∧ (c = 62 ↔ q.1.kind = 2) ∧ (c = 94 ↔ q.1.kind = 1)
 place : A[i]? = some (q.1.place : Int)
 times : q.1.kind = 4 → ∃ d, C[i + 1]? = some d ∧ 49 ≤ d.toNat ∧ d.toNat ≤ 57 ∧ q.1.count = (d.toNat : Int) - 48
 name : q.1.kind = 0 ∨ q.1.kind = 1 → 0 ≤ q.1.name ∧ q.1.name < 26
 label : q.1.label < 16
 parts : ∀ p ∈ q.1.parts, PtOk p
 kind : 0 ≤ q.1.kind ∧ q.1.kind ≤ 4
 count : 0 ≤ q.1.count ∧ q.1.count ≤ 9
 val : q.1.kind ≠ 4 → ∃ e, restC C i = some e ∧ ∃ s, EvH C e.lo e.hi s q.1.parts
def CutL {α : Type} (one : Nat → Nat → α → Prop) : Nat → Nat → List α → Prop
 | lo, hi, [] => lo = hi
 | lo, hi, q :: r => lo < hi ∧ ∃ o, one lo o q ∧ CutL one o hi r
def CutT (C : List UInt8) (A : List Int) (n : Nat) : Nat → Nat → List (RT n) → Prop :=
 match n with
 | 0 => fun lo hi _ => lo = hi
 | n + 1 => fun lo hi l => CutL (α := RT (n + 1)) (fun i o q => CutOne C A (CutT C A n) i o q) lo hi l
theorem cutT_nil (C : List UInt8) (A : List Int) (n i : Nat) : CutT C A n i i [] := by
 cases n with
 | zero => rfl
 | succ n => rfl
def PassR (C : List UInt8) (i j : Nat) : Prop := ∀ n : Int, 1 ≤ n → shutR (C.drop i) n i = shutR (C.drop j) n j
theorem PassR.trans {C : List UInt8} {i j k : Nat} (a : PassR C i j) (b : PassR C j k) : PassR C i k := fun n hn => (a n hn).trans (b n hn)
theorem PassR.byte {C : List UInt8} {i : Nat} {c : UInt8} (h : C[i]? = some c) (hd : dl c = 0) : PassR C i (i + 1) := pass_one h hd
theorem PassR.pair {C : List UInt8} {i j : Nat} {a b : UInt8} (ho : C[i]? = some a) (hc : C[j]? = some b) (h1 : dl a = 1) (h2 : dl b = -1) (h : PassR C (i + 1) j) : PassR C i (j + 1) := by
 intro n hn
 obtain ⟨hl, he⟩ := List.getElem?_eq_some_iff.mp ho
 obtain ⟨hl2, he2⟩ := List.getElem?_eq_some_iff.mp hc
 rw [shutR_cons hl, he, h1, if_neg (by omega), h (n + 1) (by omega), shutR_cons hl2, he2, h2, if_neg (by omega), show n + 1 + -1 = n by omega]
theorem shut_pair {C : List UInt8} {i j : Nat} {a b : UInt8} (ho : C[i]? = some a) (hc : C[j]? = some b) (h1 : dl a = 1) (h2 : dl b = -1) (h : PassR C (i + 1) j) : shutC C i = j + 1 := by
 obtain ⟨hl, he⟩ := List.getElem?_eq_some_iff.mp ho
 obtain ⟨hl2, he2⟩ := List.getElem?_eq_some_iff.mp hc
 unfold shutC
 rw [if_pos (by omega), shutR_cons hl, he, h1, if_neg (by decide)]
 rw [show (0 : Int) + 1 = 1 by rfl, h 1 (by omega), shutR_cons hl2, he2, h2, if_pos (by decide)]
theorem nm_dl {c : UInt8} (h : nmB c = true) : dl c = 0 ∧ c ≠ 59 ∧ c ≠ 40 ∧ c ≠ 42 ∧ c ≠ 62 ∧ c ≠ 94 ∧ dgB c = false := by
 simp [nmB] at h
 have hne : ∀ k : UInt8, (k.toNat < 97 ∨ 122 < k.toNat) → c ≠ k := by intro k hk e; subst e; omega
 refine ⟨?_, hne 59 (by decide), hne 40 (by decide), hne 42 (by decide), hne 62 (by decide), hne 94 (by decide), by simp [dgB]; omega⟩
 have h1 := hne 40 (by decide)
 have h2 := hne 123 (by decide)
 have h3 := hne 41 (by decide)
 have h4 := hne 125 (by decide)
 simp [dl, h1, h2, h3, h4]
def RuPost (t : List UInt8) (i : Nat) (f : Fm) (n : Nat) (q : RT (n + 1)) (i' : Nat) (g : Fm) : Prop :=
 g.op = f.op ∧ g.body = true ∧ (g.st = 0 ∨ (g.st = 1 ∧ (keptL t)[i']? ≠ some 123)) ∧ i < i' ∧ PassR (keptL t) i i' ∧ CutOne (keptL t) (atL t 0) (CutT (keptL t) (atL t 0) n) i i' q
theorem takeOne_frz {t : List UInt8} {r : Rd} (a b : UInt8) (h : r.bad = true) : (r.takeOne t a b).1.pos = r.pos ∧ (r.takeOne t a b).1.bad = true := by rw [takeOne_bad h]; exact ⟨rfl, h⟩
theorem exprU_frz {t : List UInt8} {r : Rd} (h : r.bad = true) : (exprU t r).1.pos = r.pos ∧ (exprU t r).1.bad = true := by rw [exprU_bad h]; exact ⟨rfl, h⟩
theorem fixed2 {f : Fm} (h : f.st = 2) : f.fixed ((61 : UInt8).toNat : Int) = ({ f with st := 10 }, true) := by simp [Fm.fixed, Fm.to, h]
theorem fixed2_no {f : Fm} (h : f.st = 2) {c : UInt8} (hc : c ≠ 61) : (f.fixed (c.toNat : Int)).2 = false := by
 have k := u8_nat hc
 simp at k
 have k2 : ¬ (c.toNat : Int) = 61 := by omega
 unfold Fm.fixed
 simp [h, k2]
theorem give_res {t : List UInt8} {n : Nat} {r : Rd} {i : Nat} {f : Fm} (h : AtI t r i) (hb : r.bad = false) (hd : r.depth = f.op.length) (hf : FitB t r) (hR : RuleSt (keptL t) i f) (s1 : r.seesOne t 97 122 = true) :
  Rz t (ruleF t n r).1 i f (RuPost t i f n (ruleF t n r).2) := by
 unfold ruleF ruleU
 rw [if_pos s1]
 simp only
 have hi : i < (keptL t).length := by
  rw [sees_at h, hb] at s1
  cases hc : (keptL t)[i]? with
  | none => rw [hc] at s1; simp [inR] at s1
  | some c => exact (List.getElem?_eq_some_iff.mp hc).1
 refine (name_res h hb { f with body := true, related := false, st := 2 } (fun c hc hn => ?_) (fun hn => ?_)).bind (fun e => ?_) (fun i1 g1 h1 hb1 q1 => ?_)
 ·rw [hR.nx hc, rule_body (hR.hd.imp id (fun k => ⟨fun e => k.1 (by rw [hc, e]), fun e => k.2 (by rw [hc, e])⟩)) (hR.sh.imp (fun k e => k (by rw [hc, e])) id)]
  simp only
  rw [isNm_u, if_pos hn]
  rfl
 ·rw [sees_at h, hb] at s1
  cases hc : (keptL t)[i]? with
  | none => rw [hc] at s1; simp [inR] at s1
  | some c =>
   rw [hc, inR_nm] at s1
   rw [hn c hc] at s1
   simp at s1
 ·have e1 := takeOne_frz (t := t) 61 61 e
  have e2 := exprU_frz (t := t) e1.2
  have e3 := takeOne_frz (t := t) 59 59 e2.2
  exact ⟨e3.1.trans (e2.1.trans e1.1), e3.2⟩
 obtain ⟨rfl, rfl, c, hc, hnc, hv⟩ := q1
 have hnd := nm_dl hnc
 refine (take_res h1 hb1 61 { f with body := true, related := false, st := 10 } (fun hc1 => ?_) (fun hc1 => ?_)).bind (fun e => ?_) (fun i2 g2 h2 hb2 q2 => ?_)
 ·rw [next_fixed (.inl rfl)]; exact fixed2 rfl
 ·refine stuck_fixed (.inl rfl) (fun d hdd => fixed2_no rfl (fun e => hc1 (by rw [hdd, e])))
 ·have e2 := exprU_frz (t := t) e
  have e3 := takeOne_frz (t := t) 59 59 e2.2
  exact ⟨e3.1.trans e2.1, e3.2⟩
 obtain ⟨rfl, rfl, hc61⟩ := q2
 have st1 := takeOne_stp (t := t) (r := r) 97 122 hf.le
 have st2 := st1.trans (takeOne_stp 61 61 st1.le)
 refine (expr_res h2 hb2 (by rw [st2.depth]; exact hd) (st2.fitB hf).fitR (unit10 rfl ⟨61, hc61, by decide⟩) rfl).bind (fun e => takeOne_frz 59 59 e) (fun i3 g3 h3 hb3 q3 => ?_)
 obtain ⟨qa, qn, qs, ql, qv⟩ := q3
 refine (semi_res h3 hb3 qa qn ?_).bind (fun e => ⟨rfl, e⟩) (fun i4 g4 h4 hb4 q4 => ⟨i4, g4, h4, GoC.refl _ _ _, fun e => (by rw [hb4] at e; cases e), fun _ => ?_⟩)
 ·have := hR.pr
  unfold Fm.paren Fm.top at this ⊢
  exact this
 obtain ⟨rfl, rfl, hc59⟩ := q4
 have hl3 := (List.getElem?_eq_some_iff.mp hc59).1
 have hover : overC (keptL t) i = some (i3 + 1) := by
  rw [over_at hi]
  have he : (keptL t)[i] = c := (List.getElem?_eq_some_iff.mp hc).2
  rw [he, if_neg hnd.2.2.1, if_neg hnd.2.2.2.1, semi_one hc hnd.2.1, semi_one hc61 (by decide), qs.semi]
  rw [List.drop_eq_getElem_cons hl3, (List.getElem?_eq_some_iff.mp hc59).2]
  rfl
 have hnb := hnc
 simp [nmB] at hnb
 refine ⟨qa.op, qa.body, .inl rfl, by omega, ((PassR.byte hc hnd.1).trans ((PassR.byte hc61 (by decide)).trans qs.pass)).trans (PassR.byte hc59 (by decide)), ?_⟩
 have hrst : restC (keptL t) i = some ⟨(c.toNat : Int) - 97, -1, i + 1 + 1, i3 + 1 - 1⟩ := by
  unfold restC
  rw [hover, hc]
  simp only
  rw [if_neg hnd.2.2.2.2.1, if_neg hnd.2.2.2.2.2.1, if_neg hnd.2.2.1, if_neg hnd.2.2.2.1]
 refine ⟨hover, ?_, ?_, ⟨c, hc, ?_⟩, ?_, fun e => (by simp at e), fun _ => ?_, by simp, qs.ok, by simp, by simp, fun _ => ⟨_, hrst, by simpa using qv⟩⟩
 ·refine ⟨⟨(c.toNat : Int) - 97, -1, i + 1 + 1, i3 + 1 - 1⟩, ?_, ?_, ?_, ?_, ?_, ?_, ?_⟩
  ·exact hrst
  ·simp only; omega
  ·simp only; omega
  ·simp only [Nat.add_sub_cancel]; exact qs.size
  ·simp only [Nat.add_sub_cancel]; unfold namesC; rw [qs.names]; simp
  ·simp [hv]
  ·simp
 ·refine ⟨⟨i, i, i, i⟩, ?_, cutT_nil _ _ _ _, cutT_nil _ _ _ _⟩
  rw [blocks_at hover hi]
  have he : (keptL t)[i] = c := (List.getElem?_eq_some_iff.mp hc).2
  rw [he, if_neg hnd.2.2.1, if_neg hnd.2.2.2.1]
 ·refine ⟨⟨fun e => absurd e hnd.2.2.2.1, fun e => by simp at e⟩, ⟨fun e => absurd e hnd.2.2.1, fun e => by simp at e⟩, ⟨fun e => absurd e hnd.2.2.2.2.1, fun e => by simp at e⟩, ⟨fun e => absurd e hnd.2.2.2.2.2.1, fun e => by simp at e⟩⟩
 ·rw [at_place hi, h.pos]
 ·show 0 ≤ (r.takeOne t 97 122).2 ∧ (r.takeOne t 97 122).2 < 26
  rw [hv]; omega
end Go.Proofs.YtdgmoiflahoihaaGreatDoor
namespace Go.Proofs.YtdgmoiflahoihaaGreatDoor
set_option linter.unusedSimpArgs false
set_option linter.unusedVariables false
theorem next78 {f : Fm} (h : f.st = 7 ∨ f.st = 8) (c : Int) : f.next c = f.letters c := by
 unfold Fm.next
 rcases h with h | h <;> simp [h]
theorem next9 {f : Fm} (h : f.st = 9) (c : Int) : f.next c = f.labeled c := by
 unfold Fm.next
 simp [h]
theorem letters_sc {f : Fm} {c : UInt8} (hs : scB c = true) (h : f.st = 7 ∨ (f.st = 8 ∧ f.last < (c.toNat : Int))) : f.letters (c.toNat : Int) = ({ f with last := (c.toNat : Int), st := 8 }, true) := by
 have h45 : ¬ (c.toNat : Int) = 45 := by simp [scB] at hs; omega
 unfold Fm.letters Fm.to
 rw [isSc_u, if_neg (fun e => h45 e.2), if_pos ⟨hs, h.imp id (fun k => k.2)⟩]
theorem letters_minus {f : Fm} (h : f.st = 7) : f.letters ((45 : UInt8).toNat : Int) = ({ f with st := 9 }, true) := by
 simp [Fm.letters, Fm.to, h]
theorem letters_no {f : Fm} (h : f.st = 7) {c : UInt8} (h1 : c ≠ 45) (h2 : scB c = false) : (f.letters (c.toNat : Int)).2 = false := by
 have k := u8_nat h1
 simp at k
 have k2 : ¬ (c.toNat : Int) = 45 := by omega
 unfold Fm.letters
 rw [isSc_u]
 simp [h, k2, h2]
theorem letters_labeled {f : Fm} (h : f.st = 8) {c : UInt8} (h2 : scB c = true → (c.toNat : Int) ≤ f.last) : f.letters (c.toNat : Int) = f.labeled (c.toNat : Int) := by
 unfold Fm.letters
 rw [isSc_u, if_neg (by rw [h]; simp), if_neg ?_, if_pos h]
 rintro ⟨k1, k2⟩
 have := h2 k1
 rcases k2 with k2 | k2
 ·rw [h] at k2; revert k2; decide
 ·omega
theorem or_new {l j : Nat} (h : l < 2 ^ j) : l ||| 2 ^ j = l + 2 ^ j := by
 have e := Nat.two_pow_add_eq_or_of_lt h 1
 rw [Nat.mul_one] at e
 rw [Nat.or_comm, ← e, Nat.add_comm]
theorem labF_spec {t : List UInt8} : ∀ (m : Nat) (r : Rd) (l k : Nat) (f : Fm), m ≤ 4 → AtI t r k → r.bad = false → ((f.st = 7 ∧ l = 0) ∨ (f.st = 8 ∧ f.last < 69 - (m : Int) ∧ l ≠ 0)) → l < 2 ^ (4 - m) →
  ∃ k' g, AtI t (Rd.labF t m r l).1 k' ∧ (Rd.labF t m r l).1.bad = false ∧ (Rd.labF t m r l).1.depth = r.depth ∧ GoC (keptL t) k f k' g ∧ g.op = f.op ∧ g.body = f.body ∧ g.related = f.related ∧ g.purpose = f.purpose ∧
   ((k' = k ∧ g = f ∧ (Rd.labF t m r l).2 = l) ∨ (k < k' ∧ g.st = 8 ∧ 69 - (m : Int) ≤ g.last ∧ (Rd.labF t m r l).2 ≠ 0)) ∧
   (∀ c, (keptL t)[k']? = some c → scB c = true → 69 - (m : Int) ≤ (c.toNat : Int) → g.st = 8 ∧ (c.toNat : Int) ≤ g.last) ∧
   labelR ((keptL t).drop k) l k = labelR ((keptL t).drop k') (Rd.labF t m r l).2 k' ∧ (Rd.labF t m r l).2 < 16 ∧ PassR (keptL t) k k' ∧ semiR ((keptL t).drop k) k = semiR ((keptL t).drop k') k' ∧ (k < k' → ∃ d, (keptL t)[k' - 1]? = some d ∧ dgB d = false)
 | 0, r, l, k, f, hm, h, hb, hst, hl => by
  refine ⟨k, f, h, hb, rfl, GoC.refl _ _ _, rfl, rfl, rfl, rfl, .inl ⟨rfl, rfl, rfl⟩, fun c hc hs h69 => ?_, rfl, by simpa [Rd.labF] using hl, fun _ _ => rfl, rfl, fun e => by omega⟩
  simp [scB] at hs
  omega
 | m + 1, r, l, k, f, hm, h, hb, hst, hl => by
  have hL : (UInt8.ofNat (68 - m)).toNat = 68 - m := by simp; omega
  have hscL : scB (UInt8.ofNat (68 - m)) = true := by simp [scB, hL]; omega
  unfold Rd.labF
  cases hs : r.seesOne t (UInt8.ofNat (68 - m)) (UInt8.ofNat (68 - m))
  ·rw [if_neg (by decide)]
   have hne := sees_false h hb hs
   have hpw : 2 ^ (4 - (m + 1)) ≤ 2 ^ (4 - m) := Nat.pow_le_pow_right (by omega) (by omega)
   obtain ⟨k', g, b1, b2, b3, b4, b5, b6, b7, b8, b9, b10, b11⟩ := labF_spec m r l k f (by omega) h hb (hst.imp id (fun e => ⟨e.1, by omega, e.2.2⟩)) (by omega)
   refine ⟨k', g, b1, b2, b3, b4, b5, b6, b7, b8, b9.imp id (fun e => ⟨e.1, e.2.1, by omega, e.2.2.2⟩), fun c hc hsc h69 => ?_, b11⟩
   by_cases h70 : 69 - (m : Int) ≤ (c.toNat : Int)
   ·exact b10 c hc hsc h70
   ·have hcL : c = UInt8.ofNat (68 - m) := UInt8.toNat_inj.mp (by rw [hL]; omega)
    rcases b9 with ⟨e1, _, _⟩ | ⟨_, e2, e3, _⟩
    ·subst e1; exact absurd (by rw [hc, hcL]) hne
    ·exact ⟨e2, by omega⟩
  ·rw [if_pos rfl]
   have hc := (sees_one h hb _).mp hs
   obtain ⟨a1, a2, a3, _⟩ := take_at h hs
   have hdl : dl (UInt8.ofNat (68 - m)) = 0 := dl_no (by omega) (by omega) (by omega) (by omega)
   have h59 : UInt8.ofNat (68 - m) ≠ 59 := by intro e; have := congrArg UInt8.toNat e; rw [hL] at this; simp at this; omega
   have hst2 : Stp1 (keptL t) k f { f with last := ((68 - m : Nat) : Int), st := 8 } := by
    refine ⟨_, hc, ?_⟩
    rw [next78 (hst.imp (fun e => e.1) (fun e => e.1)), letters_sc hscL (hst.imp (fun e => e.1) (fun e => ⟨e.1, by rw [hL]; omega⟩)), hL]
   have hpw : 2 ^ (4 - m) = 2 ^ (4 - (m + 1)) * 2 := by rw [show 4 - m = (4 - (m + 1)) + 1 by omega, Nat.pow_succ]
   have hpos : 0 < 2 ^ (3 - m) := Nat.two_pow_pos _
   rw [show 4 - (m + 1) = 3 - m by omega] at hl hpw
   obtain ⟨k', g, b1, b2, b3, b4, b5, b6, b7, b8, b9, b10, b11, b12, b13, b14, b15⟩ := labF_spec m (r.takeOne t (UInt8.ofNat (68 - m)) (UInt8.ofNat (68 - m))).1 (l + 2 ^ (3 - m)) (k + 1) { f with last := ((68 - m : Nat) : Int), st := 8 } (by omega) a1 a2 (.inr ⟨rfl, by simp only; omega, by omega⟩) (by omega)
   refine ⟨k', g, b1, b2, b3.trans a3, (GoC.one hst2).trans b4, b5, b6, b7, b8, .inr ?_, fun c hcc hsc h69 => ?_, ?_, b12, (PassR.byte hc hdl).trans b13, (semi_one hc h59).trans b14, fun _ => ?_⟩
   ·rcases b9 with ⟨e1, e2, e3⟩ | ⟨e1, e2, e3, e4⟩
    ·subst e1; subst e2
     exact ⟨by omega, rfl, by simp only; omega, by rw [e3]; omega⟩
    ·exact ⟨by omega, e2, by omega, e4⟩
   ·by_cases h70 : 69 - (m : Int) ≤ (c.toNat : Int)
    ·exact b10 c hcc hsc h70
    ·rcases b9 with ⟨e1, e2, e3⟩ | ⟨e1, e2, e3, e4⟩
     ·subst e2; exact ⟨rfl, by simp only; omega⟩
     ·exact ⟨e2, by omega⟩
   ·rw [← b11]
    obtain ⟨hkl, hke⟩ := List.getElem?_eq_some_iff.mp hc
    rw [List.drop_eq_getElem_cons hkl, hke]
    simp only [labelR, hscL, if_true, hL]
    rw [show 68 - m - 65 = 3 - m by omega, or_new hl]
   ·rcases b9 with ⟨e1, e2, e3⟩ | ⟨e1, e2, e3, e4⟩
    ·subst e1
     exact ⟨_, by simpa using hc, by simp [dgB, hL]; omega⟩
    ·exact b15 e1
structure LabSt (C : List UInt8) (i : Nat) (f g : Fm) : Prop where
 op : g.op = f.op
 body : g.body = f.body
 related : g.related = f.related
 purpose : g.purpose = f.purpose
 nd : g.done = false
 nx : ∀ c, C[i]? = some c → g.next (c.toNat : Int) = g.labeled (c.toNat : Int)
theorem label_frz {t : List UInt8} {r : Rd} (h : r.bad = true) : (r.label t).1.pos = r.pos ∧ (r.label t).1.bad = true := by
 have hl : ∀ m l, Rd.labF t m r l = (r, l) := by
  intro m
  induction m with
  | zero => intro l; rfl
  | succ m ih => intro l; unfold Rd.labF; rw [bad_sees h]; simp [ih]
 unfold Rd.label
 rw [bad_sees h, hl]
 simp [h]
theorem label_res {t : List UInt8} {r : Rd} {i : Nat} {f : Fm} (h : AtI t r i) (hb : r.bad = false) (hf : f.st = 7) :
  Rz t (r.label t).1 i f fun i' g => LabSt (keptL t) i' f g ∧ i < i' ∧ (r.label t).2 < 16 ∧ PassR (keptL t) i i' ∧ semiR ((keptL t).drop i) i = semiR ((keptL t).drop i') i' ∧ (∃ d, (keptL t)[i' - 1]? = some d ∧ dgB d = false) ∧ ∀ c, (keptL t)[i']? = some c → scB c = false → labelC (keptL t) i = some ((r.label t).2, i') := by
 unfold Rd.label
 cases hs : r.seesOne t 45 45
 ·rw [if_neg (by decide)]
  have hne := sees_false h hb hs
  obtain ⟨k', g, b1, b2, b3, b4, b5, b6, b7, b8, b9, b10, b11, b12, b13, b14, b15⟩ := labF_spec 4 r 0 i f (by omega) h hb (.inl ⟨hf, rfl⟩) (by decide)
  rcases b9 with ⟨e1, e2, e3⟩ | ⟨e1, e2, e3, e4⟩
  ·rw [if_pos e3]
   subst e1; subst e2
   refine ⟨k', g, ⟨b1.pos, b1.le⟩, GoC.refl _ _ _, fun _ => ?_, fun e => by cases e⟩
   unfold StuckC
   cases hc : (keptL t)[k']? with
   | none => exact done_st (by rw [hf]; decide)
   | some c =>
    simp only
    rw [next78 (.inl hf)]
    refine letters_no hf (fun e => by subst e; exact hne hc) ?_
    cases hsc : scB c with
    | false => rfl
    | true =>
     have hsc2 := hsc
     simp [scB] at hsc2
     have := (b10 c hc hsc (by omega)).1
     rw [hf] at this
     revert this; decide
  ·rw [if_neg e4]
   have hil : i < (keptL t).length := by have := b1.le; omega
   refine ⟨k', g, b1, b4, fun e => (by rw [b2] at e; cases e), fun _ => ⟨⟨b5, b6, b7, b8, done_st (by rw [e2]; decide), fun c hc => ?_⟩, e1, b12, b13, b14, b15 e1, fun c hc hsc => ?_⟩⟩
   ·rw [next78 (.inr e2)]
    refine letters_labeled e2 (fun hsc => ?_)
    have hsc2 := hsc
    simp [scB] at hsc2
    exact (b10 c hc hsc (by omega)).2
   ·rw [labelC_at hil, if_neg (fun e => hne (by rw [List.getElem?_eq_getElem hil, e])), b11]
    obtain ⟨hkl, hke⟩ := List.getElem?_eq_some_iff.mp hc
    rw [List.drop_eq_getElem_cons hkl, hke]
    simp [labelR, hsc]
 ·rw [if_pos rfl]
  have hc := (sees_one h hb 45).mp hs
  have hil := (List.getElem?_eq_some_iff.mp hc).1
  obtain ⟨a1, a2, a3, _⟩ := take_at h hs
  refine ⟨i + 1, { f with st := 9 }, a1, GoC.one ⟨45, hc, by rw [next78 (.inl hf)]; exact letters_minus hf⟩, fun e => (by simp only at e; rw [a2] at e; cases e), fun _ => ⟨⟨rfl, rfl, rfl, rfl, done_st ⟨by simp, by simp⟩, fun c _ => next9 rfl _⟩, by omega, by simp, PassR.byte hc (by decide), semi_one hc (by decide), ⟨45, by simpa using hc, by decide⟩, fun c _ _ => ?_⟩⟩
  rw [labelC_at hil, if_pos (List.getElem?_eq_some_iff.mp hc).2]
end Go.Proofs.YtdgmoiflahoihaaGreatDoor
