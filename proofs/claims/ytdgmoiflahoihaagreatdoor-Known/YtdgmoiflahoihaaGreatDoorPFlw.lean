import Derived.Test.YtdgmoiflahoihaaGreatDoorPRu4w

namespace Go.Proofs.YtdgmoiflahoihaaGreatDoor
set_option linter.unusedSimpArgs false
set_option linter.unusedVariables false
structure HeadOne (C : List UInt8) (A : List Int) (i o : Nat) (h : Hd) : Prop where
 over : overC C i = some o
 byte : ∃ c, C[i]? = some c ∧ (c = 63 ∨ c = 33) ∧ (c = 63 ↔ h.field = true)
 name : ∃ c, C[i + 1]? = some c ∧ h.name = (c.toNat : Int) - 97
 label : ∃ j, labelC C (i + 3) = some (h.label, j)
 place : A[i + 1]? = some (h.place : Int)
 ok : 0 ≤ h.name ∧ h.name < 26 ∧ h.label < 16
def CutHd (C : List UInt8) (A : List Int) : Nat → Nat → List Hd → Prop
 | lo, hi, [] => lo = hi
 | lo, hi, h :: r => lo < hi ∧ ∃ o, HeadOne C A lo o h ∧ CutHd C A o hi r
theorem rule_head {f : Fm} (hb : f.body = false) {c : UInt8} (hc : c = 63 ∨ c = 33) : f.rule (c.toNat : Int) = ({ f with st := 5 }, true) := by
 rcases hc with rfl | rfl <;> simp [Fm.rule, Fm.to, hb]
theorem fixed5 {f : Fm} (h : f.st = 5) {c : UInt8} (hc : nmB c = true) : f.fixed (c.toNat : Int) = ({ f with st := 6 }, true) := by
 unfold Fm.fixed; rw [isNm_u]; simp [Fm.to, h, hc]
theorem fixed5_no {f : Fm} (h : f.st = 5) {c : UInt8} (hc : nmB c = false) : (f.fixed (c.toNat : Int)).2 = false := by
 unfold Fm.fixed; rw [isNm_u]; simp [Fm.to, h, hc]
theorem fixed6 {f : Fm} (h : f.st = 6) : f.fixed ((58 : UInt8).toNat : Int) = ({ f with purpose := 0, st := 7 }, true) := by simp [Fm.fixed, Fm.to, h]
theorem fixed6_no {f : Fm} (h : f.st = 6) {c : UInt8} (hc : c ≠ 58) : (f.fixed (c.toNat : Int)).2 = false := by
 have k := u8_nat hc
 simp at k
 have k2 : ¬ (c.toNat : Int) = 58 := by omega
 simp [Fm.fixed, Fm.to, h, k2]
theorem head_res {t : List UInt8} {r : Rd} {i : Nat} {f : Fm} (h : AtI t r i) (hb : r.bad = false) (hst : f.st = 0) (hbd : f.body = false) (hs : (r.seesOne t 63 63 || r.seesOne t 33 33) = true) :
  Rz t (headU t r).1 i f fun i' g => g.st = 0 ∧ g.op = f.op ∧ g.body = false ∧ i < i' ∧ HeadOne (keptL t) (atL t 0) i i' (headU t r).2 := by
 have hc0 : ∃ c, (keptL t)[i]? = some c ∧ (c = 63 ∨ c = 33) ∧ (c = 63 ↔ r.seesOne t 63 63 = true) ∧ headO t r = (r.takeOne t c c).1 := by
  cases s1 : r.seesOne t 63 63
  ·rw [s1] at hs
   simp at hs
   exact ⟨33, (sees_one h hb 33).mp hs, .inr rfl, by simp, by unfold headO; rw [if_neg (by rw [s1]; decide)]⟩
  ·exact ⟨63, (sees_one h hb 63).mp s1, .inl rfl, by simp, by unfold headO; rw [if_pos s1]⟩
 obtain ⟨c0, hc, hc2, hc3, ho⟩ := hc0
 have hi := (List.getElem?_eq_some_iff.mp hc).1
 have hd0 : dl c0 = 0 ∧ c0 ≠ 59 ∧ c0 ≠ 40 ∧ c0 ≠ 42 := by rcases hc2 with rfl | rfl <;> decide
 unfold headU
 rw [ho]
 simp only
 refine (take_res h hb c0 { f with st := 5 } (fun _ => ?_) (fun hn => absurd hc hn)).bind (fun e => ?_) (fun i1 g1 h1 hb1 q1 => ?_)
 ·rw [next0 hst]; exact rule_head hbd hc2
 ·have e1 := takeOne_frz (t := t) 97 122 e
  have e2 := takeOne_frz (t := t) 58 58 e1.2
  have e3 := label_frz (t := t) e2.2
  have e4 := takeOne_frz (t := t) 59 59 e3.2
  exact ⟨e4.1.trans (e3.1.trans (e2.1.trans e1.1)), e4.2⟩
 obtain ⟨rfl, rfl, _⟩ := q1
 refine (name_res h1 hb1 { f with st := 6 } (fun c hc1 hn => ?_) (fun hn => ?_)).bind (fun e => ?_) (fun i2 g2 h2 hb2 q2 => ?_)
 ·rw [next_fixed (.inr (.inr (.inr (.inl rfl))))]; exact fixed5 rfl hn
 ·exact stuck_fixed (.inr (.inr (.inr (.inl rfl)))) (fun d hdd => fixed5_no rfl (hn d hdd))
 ·have e2 := takeOne_frz (t := t) 58 58 e
  have e3 := label_frz (t := t) e2.2
  have e4 := takeOne_frz (t := t) 59 59 e3.2
  exact ⟨e4.1.trans (e3.1.trans e2.1), e4.2⟩
 obtain ⟨rfl, rfl, c, hc1, hnc, hv⟩ := q2
 have hnd := nm_dl hnc
 have hi1 := (List.getElem?_eq_some_iff.mp hc1).1
 refine (take_res h2 hb2 58 { f with purpose := 0, st := 7 } (fun hc2 => ?_) (fun hc2 => ?_)).bind (fun e => ?_) (fun i3 g3 h3 hb3 q3 => ?_)
 ·rw [next_fixed (.inr (.inr (.inr (.inr (.inl rfl)))))]; exact fixed6 rfl
 ·exact stuck_fixed (.inr (.inr (.inr (.inr (.inl rfl))))) (fun d hdd => fixed6_no rfl (fun e => hc2 (by rw [hdd, e])))
 ·have e3 := label_frz (t := t) e
  have e4 := takeOne_frz (t := t) 59 59 e3.2
  exact ⟨e4.1.trans e3.1, e4.2⟩
 obtain ⟨rfl, rfl, hc58⟩ := q3
 refine (label_res h3 hb3 rfl).bind (fun e => takeOne_frz 59 59 e) (fun i4 g4 h4 hb4 q4 => ?_)
 obtain ⟨ql, qlt, q16, qp, qs, qd, qc⟩ := q4
 refine (take_res h4 hb4 59 { g4 with st := 0 } (fun hc3 => ?_) (fun hc3 => ?_)).bind (fun e => ⟨rfl, e⟩) (fun i5 g5 h5 hb5 q5 => ⟨i5, g5, h5, GoC.refl _ _ _, fun e => absurd (hb5.symm.trans e) (by decide), fun _ => ?_⟩)
 ·rw [ql.nx 59 hc3]; exact labeled_head ql.purpose
 ·unfold StuckC
  cases hcc : (keptL t)[i4]? with
  | none => exact ql.nd
  | some d => simp only; rw [ql.nx d hcc]; exact labeled_head_no ql.purpose (fun e => hc3 (by rw [hcc, e]))
 obtain ⟨rfl, rfl, hc59⟩ := q5
 have hnb := hnc
 simp [nmB] at hnb
 have hsemi : semiR ((keptL t).drop i) i = semiR ((keptL t).drop i4) i4 := by
  rw [semi_one hc hd0.2.1, semi_one hc1 hnd.2.1, semi_one hc58 (by decide), qs]
 refine ⟨rfl, ql.op, ql.body.trans hbd, by omega, ⟨over_semi hc hd0.2.2.1 hd0.2.2.2 hsemi hc59, ⟨c0, hc, hc2, hc3⟩, ⟨c, hc1, hv⟩, ⟨i4, qc 59 hc59 (by decide)⟩, ?_, ?_⟩⟩
 ·show (atL t 0)[i + 1]? = some (((r.takeOne t c0 c0).1.pos : Nat) : Int)
  rw [at_place hi1, h1.pos]
 ·show 0 ≤ ((r.takeOne t c0 c0).1.takeOne t 97 122).2 ∧ ((r.takeOne t c0 c0).1.takeOne t 97 122).2 < 26 ∧ _
  rw [hv]
  exact ⟨by omega, by omega, q16⟩
theorem heads_res {t : List UInt8} : ∀ (k : Nat) (r : Rd) (i : Nat) (f : Fm), AtI t r i → r.bad = false → f.st = 0 → f.body = false → f.op = [] → (keptL t).length - i < k →
  Rz t (headsL t k r).1 i f fun i' g => g.st = 0 ∧ g.op = [] ∧ g.body = false ∧ i ≤ i' ∧ (keptL t)[i']? ≠ some 63 ∧ (keptL t)[i']? ≠ some 33 ∧ CutHd (keptL t) (atL t 0) i i' (headsL t k r).2
 | 0, r, i, f, h, hb, h1, h2, h3, hk => by omega
 | k + 1, r, i, f, h, hb, h1, h2, h3, hk => by
  cases hs : (r.seesOne t 63 63 || r.seesOne t 33 33)
  ·rw [headsL_no k hs]
   obtain ⟨s1, s2⟩ := Bool.or_eq_false_iff.mp hs
   exact ⟨i, f, h, GoC.refl _ _ _, fun e => absurd (hb.symm.trans e) (by decide), fun _ => ⟨h1, h3, h2, Nat.le_refl _, sees_false h hb s1, sees_false h hb s2, rfl⟩⟩
  ·rw [headsL_yes k hs]
   refine (head_res h hb h1 h2 hs).bind (fun e => ?_) (fun i1 g1 a1 ab1 q1 => ?_)
   ·cases k with
    | zero => exact ⟨rfl, e⟩
    | succ k => rw [headsL_no k (by rw [bad_sees e, bad_sees e]; rfl)]; exact ⟨rfl, e⟩
   obtain ⟨p1, p2, p3, p4, p5⟩ := q1
   obtain ⟨i2, g2, c1, c2, c3, c4⟩ := heads_res k (headU t r).1 i1 g1 a1 ab1 p1 p3 (p2.trans h3) (by have := a1.le; omega)
   refine ⟨i2, g2, c1, c2, c3, fun e => ?_⟩
   obtain ⟨e1, e2, e3, e4, e5, e6, e7⟩ := c4 e
   exact ⟨e1, e2, e3, by omega, e5, e6, ⟨by omega, i1, p5, e7⟩⟩
theorem cutHd_begin {C : List UInt8} {A : List Int} : ∀ (l : List Hd) (lo hi f : Nat), CutHd C A lo hi l → C.length - lo < f → lo ≤ C.length → (C[hi]? ≠ some 63 ∧ C[hi]? ≠ some 33) → beginF C f lo = some hi
 | [], lo, hi, 0, h, hf, _, _ => by omega
 | [], lo, hi, f + 1, h, hf, _, hn => by
  have h' : lo = hi := h
  subst h'
  unfold beginF
  cases hc : C[lo]? with
  | none => rfl
  | some c =>
   rw [hc] at hn
   simp at hn
   simp [hn.1, hn.2]
 | a :: r, lo, hi, 0, h, hf, _, _ => by omega
 | a :: r, lo, hi, f + 1, h, hf, hl, hn => by
  obtain ⟨hlt, o, h1, h2⟩ := h
  obtain ⟨c, hc, hc2, _⟩ := h1.byte
  have hog := over_gt h1.over
  have hol := over_le h1.over
  unfold beginF
  rw [hc]
  simp only
  rw [if_pos hc2, h1.over]
  exact cutHd_begin r o hi f h2 (by omega) hol hn
theorem parse_spec (t : List UInt8) : ((parseR t).1.bad = true → placeOf t = ((parseR t).1.pos : Int)) ∧
  ((parseR t).1.bad = false → placeOf t = -1 ∧ ∃ B, beginC (keptL t) = some B ∧ CutHd (keptL t) (atL t 0) 0 B (parseH t).2 ∧ CutT (keptL t) (atL t 0) 9 B (keptL t).length (parseR t).2) := by
 have hk := kept_le t
 obtain ⟨hp1, hd1⟩ := parseH_facts t
 have hH := heads_res (t.length + 1) (Rd.skip t Rd.first) 0 Fm.start (first_at t) rfl rfl rfl rfl (by omega)
 have hall : Rz t (parseR t).1 0 Fm.start fun i' g => i' = (keptL t).length ∧ g.done = true ∧ ∃ B, beginC (keptL t) = some B ∧ CutHd (keptL t) (atL t 0) 0 B (parseH t).2 ∧ CutT (keptL t) (atL t 0) 9 B (keptL t).length (parseR t).2 := by
  refine hH.bind (fun e => ?_) (fun i1 g1 h1 hb1 q1 => ?_)
  ·show (rulesL _ _ _ (parseH t).1).1.pos = _ ∧ _
   unfold parseR
   rw [rulesL_bad (r := (parseH t).1) e]
   exact ⟨rfl, e⟩
  obtain ⟨e1, e2, e3, e4, e5, e6, e7⟩ := q1
  have hbeg : beginC (keptL t) = some i1 := cutHd_begin _ 0 i1 _ e7 (by omega) (Nat.zero_le _) ⟨e5, e6⟩
  refine (rulesL_spec (rule_spec t 8) (fun r => decide (t.length ≤ r.pos)) g1 0 (by rw [e2]; rfl) (by omega) (by omega) (by unfold Fm.paren Fm.top; rw [e2]; rfl) (fun r' j h' hb' hs => ⟨.inr e2, fun en => ?_⟩) (t.length + 1) (parseH t).1 i1 g1 h1 hb1 hd1 ⟨hp1, by omega, by omega⟩ rfl (.inr ⟨e5, e6⟩) (.inl e1) (by omega)).bind (fun e => ⟨rfl, e⟩) (fun i2 g2 h2 hb2 q2 => ⟨i2, g2, h2, GoC.refl _ _ _, fun e => absurd (hb2.symm.trans e) (by decide), fun _ => ?_⟩)
  ·have hj := List.getElem?_eq_none_iff.mp en
   have := h'.pos
   rw [posI_end hj] at this
   simp at hs
   omega
  obtain ⟨f1, f2, f3, f4, f5, f6, f7⟩ := q2
  have hend : i2 = (keptL t).length := by
   have hle := h2.le
   apply Decidable.byContradiction
   intro hne
   have hlt : i2 < (keptL t).length := by omega
   have := (posL_facts t 0 i2 hlt).1
   have hpos := h2.pos
   unfold posI at hpos
   have f1' : t.length ≤ (rulesL (fun r => ruleF t 8 r) (fun r => decide (t.length ≤ r.pos)) (t.length + 1) (parseH t).1).1.pos := by simpa using f1
   rw [hpos] at f1'
   omega
  subst hend
  refine ⟨rfl, ?_, i1, hbeg, e7, f7⟩
  unfold Fm.done
  rw [f2, e2]
  rcases f4 with f4 | f4
  ·simp [f4]
  ·simp [f4.1]
 obtain ⟨i', g, a1, a2, a3, a4⟩ := hall
 refine ⟨fun e => ?_, fun e => ?_⟩
 ·rw [stuck_place a2 a1.le (a3 e), a1.pos]
 ·obtain ⟨b1, b2, b3⟩ := a4 e
  subst b1
  exact ⟨done_place a2 b2, b3⟩
end Go.Proofs.YtdgmoiflahoihaaGreatDoor
namespace Go.Proofs.YtdgmoiflahoihaaGreatDoor
set_option linter.unusedSimpArgs false
set_option linter.unusedVariables false
theorem sizeL_le : ∀ (l : List UInt8) (d : Bool), sizeL d l ≤ l.length
 | [], d => Nat.le_refl _
 | c :: r, d => by
  have := sizeL_le r (dgB c)
  unfold sizeL
  simp only [List.length_cons]
  split <;> omega
theorem seg_len (C : List UInt8) (lo hi : Nat) : (seg C lo hi).length ≤ hi - lo := by unfold seg; simp; omega
theorem sizeC_le (C : List UInt8) (lo hi : Nat) : sizeC C lo hi ≤ hi - lo := Nat.le_trans (sizeL_le _ _) (seg_len _ _ _)
theorem span_ok {C : List UInt8} {i o : Nat} {e : Rest} {t : Two} (ho : overC C i = some o) (hr : restC C i = some e) (hb : blocksC C i = some t) : 1 + (e.hi - e.lo) + (t.q - t.p) + (t.s - t.r) ≤ o - i := by
 have hi := over_lt ho
 have hg := over_gt ho
 have s1 := shutC_le C
 have s2 := fun j h => shutC_ge (C := C) (i := j) h
 have a1 := s1 i
 have a2 := s1 (shutC C i)
 have a3 := s1 (i + 2)
 have b2 := s2 (shutC C i) a1
 rw [blocks_at ho hi] at hb
 have ho2 := ho
 rw [over_at hi] at ho2
 have hci : C[i]? = some C[i] := List.getElem?_eq_getElem hi
 unfold restC at hr
 rw [ho, hci] at hr
 simp only at hr
 by_cases e40 : C[i] = 40
 ·have hgt := shutC_gt hi e40
  have b3 := s2 (shutC C (shutC C i)) a2
  rw [if_pos e40] at hb ho2
  rw [e40] at hr
  simp at hr
  subst hr
  have hob : shutC C (shutC C i) ≤ o := by split at ho2 <;> (cases ho2; omega)
  split at hb <;> (cases hb; simp only; omega)
 ·rw [if_neg e40] at hb ho2
  by_cases e42 : C[i] = 42
  ·rw [if_pos e42] at hb ho2
   rw [e42] at hr
   simp at hr
   subst hr
   cases ho2
   rw [if_pos rfl] at hb
   cases hb
   simp only
   omega
  ·rw [if_neg e42] at hb
   cases hb
   simp only
   by_cases e62 : C[i] = 62
   ·rw [if_pos e62] at hr
    cases hl : labelC C (i + 1) with
    | none => rw [hl] at hr; cases hr
    | some x =>
     rw [hl] at hr
     cases hr
     have := labelC_le (l := x.1) (j := x.2) hl
     simp only
     omega
   ·rw [if_neg e62] at hr
    by_cases e94 : C[i] = 94
    ·rw [if_pos e94] at hr
     cases hl : labelC C (i + 3) with
     | none => rw [hl] at hr; cases hr
     | some x =>
      cases hd : C[i + 1]? with
      | none => rw [hl, hd] at hr; cases hr
      | some d =>
       rw [hl, hd] at hr
       cases hr
       have := labelC_le (l := x.1) (j := x.2) hl
       simp only
       omega
    ·rw [if_neg e94, if_neg e40, if_neg e42] at hr
     cases hr
     simp only
     omega
theorem cutL_le {α : Type} {one : Nat → Nat → α → Prop} : ∀ (l : List α) (lo hi : Nat), (∀ i o q, one i o q → i < o) → CutL one lo hi l → lo ≤ hi ∧ l.length ≤ hi - lo
 | [], lo, hi, _, h => by have : lo = hi := h; subst this; simp
 | q :: r, lo, hi, ho, h => by
  obtain ⟨hlt, o, h1, h2⟩ := h
  have := ho _ _ _ h1
  have := cutL_le r o hi ho h2
  simp only [List.length_cons]
  omega
theorem at_lt {t : List UInt8} {i p : Nat} (h : (atL t 0)[i]? = some (p : Int)) : p < t.length := by
 have hl : ∀ (l : List UInt8) (k : Nat), (atL l k).length = (keptL l).length := by
  intro l
  induction l with
  | nil => intro k; rfl
  | cons c r ih => intro k; unfold atL keptL; split <;> simp [ih]
 have hi : i < (keptL t).length := by
  have := (List.getElem?_eq_some_iff.mp h).1
  rwa [hl] at this
 rw [at_place hi] at h
 have h'' : ((posI t i : Nat) : Int) = (p : Int) := by simpa using h
 have h' : posI t i = p := by omega
 have := (posL_facts t 0 i hi).1
 unfold posI at h'
 omega
theorem cutOne_ok {α : Type} {t : List UInt8} {rows : Nat → Nat → List α → Prop} {i o : Nat} {q : Core × List α × List α} (ht : t.length ≤ 400) (h : CutOne (keptL t) (atL t 0) rows i o q) : CoreOk q.1 := by
 obtain ⟨e, _, h1, h2, h3, _⟩ := h.rest
 have hk := kept_le t
 have := sizeC_le (keptL t) e.lo e.hi
 have hp := at_lt h.place
 refine ⟨h.name, h.label, h.parts, by omega, by omega, h.count, fun hk4 => ?_, h.kind⟩
 obtain ⟨d, _, d1, d2, d3⟩ := h.times hk4
 omega
theorem cutT_ok {t : List UInt8} (ht : t.length ≤ 400) : ∀ (n lo hi : Nat) (l : List (RT n)), hi ≤ 400 → CutT (keptL t) (atL t 0) n lo hi l → TreeOk n l
 | 0, _, _, _, _, _ => trivial
 | n + 1, lo, hi, l, hh, h => by
  have hle := cutL_le _ _ _ (fun i o q hq => over_gt hq.over) h
  refine ⟨by omega, ?_⟩
  have hk := kept_le t
  have key : ∀ (l : List (Core × List (RT n) × List (RT n))) (lo hi : Nat), CutL (fun i o q => CutOne (keptL t) (atL t 0) (CutT (keptL t) (atL t 0) n) i o q) lo hi l → ∀ q ∈ l, CoreOk q.1 ∧ TreeOk n q.2.1 ∧ TreeOk n q.2.2 := by
   intro l
   induction l with
   | nil => intro lo hi _ q hq; cases hq
   | cons a r ih =>
    intro lo hi h q hq
    obtain ⟨hlt, o, h1, h2⟩ := h
    rcases List.mem_cons.mp hq with rfl | hq
    ·obtain ⟨tw, hb, hb1, hb2⟩ := h1.blocks
     have hol := over_le h1.over
     obtain ⟨e, he, _⟩ := h1.rest
     have hsp := blocks_le hb (by omega)
     have hx : tw.q ≤ (keptL t).length ∧ tw.s ≤ (keptL t).length := by
      have hi := over_lt h1.over
      have s1 := shutC_le (keptL t)
      have a2 := s1 (shutC (keptL t) lo)
      have a3 := s1 (lo + 2)
      rw [blocks_at h1.over hi] at hb
      repeat' split at hb
      all_goals (cases hb; simp only; omega)
     exact ⟨cutOne_ok ht h1, cutT_ok ht n _ _ _ (by omega) hb1, cutT_ok ht n _ _ _ (by omega) hb2⟩
    ·exact ih o hi h2 q hq
  exact key l lo hi h
theorem work_bound {C : List UInt8} {A : List Int} : ∀ (n lo hi : Nat) (l : List (RT n)), CutT C A n lo hi l → workS n l ≤ 10 ^ n * (hi - lo)
 | 0, lo, hi, l, h => Nat.zero_le _
 | n + 1, lo, hi, l, h => by
  have key : ∀ (l : List (Core × List (RT n) × List (RT n))) (lo hi : Nat), CutL (fun i o q => CutOne C A (CutT C A n) i o q) lo hi l → workL (workS n) l ≤ 10 ^ (n + 1) * (hi - lo) := by
   intro l
   induction l with
   | nil => intro lo hi _; exact Nat.zero_le _
   | cons q r ih =>
    intro lo hi h
    obtain ⟨hlt, o, h1, h2⟩ := h
    have i2 := ih o hi h2
    obtain ⟨e, he, he1, he2, he3, _⟩ := h1.rest
    obtain ⟨tw, hb, hb1, hb2⟩ := h1.blocks
    have hsp := span_ok h1.over he hb
    have w1 := work_bound n _ _ _ hb1
    have w2 := work_bound n _ _ _ hb2
    have hsz := sizeC_le C e.lo e.hi
    have hoh := (cutL_le r o hi (fun i o q hq => over_gt hq.over) h2).1
    have hp : 0 < 10 ^ n := Nat.pow_pos (by omega)
    rw [workL_cons]
    have hq : workT (workS n) q ≤ 10 ^ (n + 1) * (o - lo) := by
     have hpe : 10 ^ (n + 1) = 10 * 10 ^ n := by rw [Nat.pow_succ, Nat.mul_comm]
     rw [hpe]
     have hm : ∀ x y : Nat, x ≤ y → 10 * 10 ^ n * x ≤ 10 * 10 ^ n * y := fun x y hxy => Nat.mul_le_mul_left _ hxy
     have hs1 := hm (1 + (e.hi - e.lo) + (tw.q - tw.p) + (tw.s - tw.r)) (o - lo) hsp
     refine Nat.le_trans ?_ hs1
     generalize 10 ^ n = K at *
     generalize hA : tw.q - tw.p = a at *
     generalize hB : tw.s - tw.r = b at *
     have m1 : 10 * K * (1 + (e.hi - e.lo) + a + b) = 10 * K + 10 * K * (e.hi - e.lo) + 10 * (K * a) + 10 * (K * b) := by
      rw [Nat.mul_add, Nat.mul_add, Nat.mul_add, Nat.mul_one, Nat.mul_assoc 10 K a, Nat.mul_assoc 10 K b]
     rw [m1]
     have hke : e.hi - e.lo ≤ 10 * K * (e.hi - e.lo) := Nat.le_mul_of_pos_left _ (by omega)
     unfold workT
     split
     ·rename_i hk4
      have hc := h1.count
      have hct : q.1.count.toNat ≤ 9 := by omega
      have : q.1.count.toNat * (1 + workS n q.2.1) ≤ 9 * (1 + workS n q.2.1) := Nat.mul_le_mul_right _ hct
      omega
     ·omega
    have : 10 ^ (n + 1) * (hi - lo) = 10 ^ (n + 1) * (o - lo) + 10 ^ (n + 1) * (hi - o) := by
     rw [← Nat.mul_add]; congr 1; have := over_gt h1.over; omega
    omega
  exact key l lo hi h
theorem work_lt40 {C : List UInt8} {A : List Int} {n lo hi : Nat} {l : List (RT n)} (h : CutT C A n lo hi l) (hn : n ≤ 9) (hh : hi - lo ≤ 400) : workS n l < 1099511627776 := by
 have h1 := work_bound n lo hi l h
 have h2 : 10 ^ n ≤ 10 ^ 9 := Nat.pow_le_pow_right (by omega) hn
 have h3 : 10 ^ n * (hi - lo) ≤ 10 ^ 9 * 400 := Nat.mul_le_mul h2 hh
 omega
end Go.Proofs.YtdgmoiflahoihaaGreatDoor
namespace Go.Proofs.YtdgmoiflahoihaaGreatDoor
set_option linter.unusedSimpArgs false
set_option linter.unusedVariables false
theorem cutHd_le {C : List UInt8} {A : List Int} : ∀ (l : List Hd) (lo hi : Nat), CutHd C A lo hi l → lo ≤ hi ∧ l.length ≤ hi - lo
 | [], lo, hi, h => by have : lo = hi := h; subst this; simp
 | a :: r, lo, hi, h => by
  obtain ⟨hlt, o, h1, h2⟩ := h
  have := over_gt h1.over
  have := cutHd_le r o hi h2
  simp only [List.length_cons]
  omega
end Go.Proofs.YtdgmoiflahoihaaGreatDoor
namespace Go.Proofs.YtdgmoiflahoihaaGreatDoor
set_option linter.unusedSimpArgs false
set_option linter.unusedVariables false
def hdOf : List Hd → Nat → Option Nat
 | [], _ => none
 | h :: r, x => if h.name = (x : Int) then some h.label else hdOf r x
end Go.Proofs.YtdgmoiflahoihaaGreatDoor
