import Derived.Test.YtdgmoiflahoihaaGreatDoorPRuw

namespace Go.Proofs.YtdgmoiflahoihaaGreatDoor
set_option linter.unusedSimpArgs false
set_option linter.unusedVariables false
theorem labeled_open {f : Fm} (h : f.purpose = 1) : f.labeled ((61 : UInt8).toNat : Int) = ({ f with st := 10 }, true) := by simp [Fm.labeled, Fm.to, h]
theorem labeled_open_no {f : Fm} (h : f.purpose = 1) {c : UInt8} (hc : c ≠ 61) : (f.labeled (c.toNat : Int)).2 = false := by
 have k := u8_nat hc
 simp at k
 have k2 : ¬ (c.toNat : Int) = 61 := by omega
 simp [Fm.labeled, h, k2]
theorem labeled_tell {f : Fm} (h : f.purpose = 2) (c : Int) : f.labeled c = f.unit c := by simp [Fm.labeled, h]
theorem labeled_head {f : Fm} (h : f.purpose = 0) : f.labeled ((59 : UInt8).toNat : Int) = ({ f with st := 0 }, true) := by simp [Fm.labeled, Fm.to, h]
theorem labeled_head_no {f : Fm} (h : f.purpose = 0) {c : UInt8} (hc : c ≠ 59) : (f.labeled (c.toNat : Int)).2 = false := by
 have k := u8_nat hc
 simp at k
 have k2 : ¬ (c.toNat : Int) = 59 := by omega
 simp [Fm.labeled, h, k2]
theorem fixed3 {f : Fm} (h : f.st = 3) {c : UInt8} (hc : nmB c = true) : f.fixed (c.toNat : Int) = ({ f with st := 4 }, true) := by
 unfold Fm.fixed; rw [isNm_u]; simp [Fm.to, h, hc]
theorem fixed3_no {f : Fm} (h : f.st = 3) {c : UInt8} (hc : nmB c = false) : (f.fixed (c.toNat : Int)).2 = false := by
 unfold Fm.fixed; rw [isNm_u]; simp [Fm.to, h, hc]
theorem fixed4 {f : Fm} (h : f.st = 4) : f.fixed ((58 : UInt8).toNat : Int) = ({ f with purpose := 1, st := 7 }, true) := by simp [Fm.fixed, Fm.to, h]
theorem fixed4_no {f : Fm} (h : f.st = 4) {c : UInt8} (hc : c ≠ 58) : (f.fixed (c.toNat : Int)).2 = false := by
 have k := u8_nat hc
 simp at k
 have k2 : ¬ (c.toNat : Int) = 58 := by omega
 simp [Fm.fixed, Fm.to, h, k2]
theorem RuleSt.body {C : List UInt8} {i : Nat} {f : Fm} (h : RuleSt C i f) {c : UInt8} (hc : C[i]? = some c) : f.next (c.toNat : Int) =
  (let f := { f with body := true, related := false }
  if isNm (c.toNat : Int) = true then f.to 2
  else if (c.toNat : Int) = 94 then f.to 3
  else if (c.toNat : Int) = 62 then { f with purpose := 2 }.to 7
  else if (c.toNat : Int) = 40 ∧ f.op.length < 8 then { f with op := 99 :: f.op }.to 10
  else if (c.toNat : Int) = 42 ∧ f.op.length < 8 then f.to 13
  else (f, false)) := by
 rw [h.nx hc, rule_body (h.hd.imp id (fun k => ⟨fun e => k.1 (by rw [hc, e]), fun e => k.2 (by rw [hc, e])⟩)) (h.sh.imp (fun k e => k (by rw [hc, e])) id)]
theorem over_semi {C : List UInt8} {i j : Nat} {c : UInt8} (hc : C[i]? = some c) (h40 : c ≠ 40) (h42 : c ≠ 42) (hs : semiR (C.drop i) i = semiR (C.drop j) j) (hj : C[j]? = some 59) : overC C i = some (j + 1) := by
 obtain ⟨hi, he⟩ := List.getElem?_eq_some_iff.mp hc
 obtain ⟨hl, he2⟩ := List.getElem?_eq_some_iff.mp hj
 rw [over_at hi, he, if_neg h40, if_neg h42, hs, List.drop_eq_getElem_cons hl, he2]
 rfl
theorem open_res {t : List UInt8} {n : Nat} {r : Rd} {i : Nat} {f : Fm} (h : AtI t r i) (hb : r.bad = false) (hd : r.depth = f.op.length) (hf : FitB t r) (hR : RuleSt (keptL t) i f) (s1 : r.seesOne t 97 122 = false) (s2 : r.seesOne t 94 94 = true) :
  Rz t (ruleF t n r).1 i f (RuPost t i f n (ruleF t n r).2) := by
 unfold ruleF ruleU
 rw [if_neg (by rw [s1]; decide), if_pos s2]
 simp only
 have hc := (sees_one h hb 94).mp s2
 have hi := (List.getElem?_eq_some_iff.mp hc).1
 refine (take_res h hb 94 { f with body := true, related := false, st := 3 } (fun hc => ?_) (fun hn => absurd hc hn)).bind (fun e => ?_) (fun i1 g1 h1 hb1 q1 => ?_)
 ·rw [hR.body hc]; simp [isNm, Fm.to]
 ·have e1 := takeOne_frz (t := t) 97 122 e
  have e2 := takeOne_frz (t := t) 58 58 e1.2
  have e3 := label_frz (t := t) e2.2
  have e4 := takeOne_frz (t := t) 61 61 e3.2
  have e5 := exprU_frz (t := t) e4.2
  have e6 := takeOne_frz (t := t) 59 59 e5.2
  exact ⟨e6.1.trans (e5.1.trans (e4.1.trans (e3.1.trans (e2.1.trans e1.1)))), e6.2⟩
 obtain ⟨rfl, rfl, _⟩ := q1
 refine (name_res h1 hb1 { f with body := true, related := false, st := 4 } (fun c hc1 hn => ?_) (fun hn => ?_)).bind (fun e => ?_) (fun i2 g2 h2 hb2 q2 => ?_)
 ·rw [next_fixed (.inr (.inl rfl))]; exact fixed3 rfl hn
 ·exact stuck_fixed (.inr (.inl rfl)) (fun d hdd => fixed3_no rfl (hn d hdd))
 ·have e2 := takeOne_frz (t := t) 58 58 e
  have e3 := label_frz (t := t) e2.2
  have e4 := takeOne_frz (t := t) 61 61 e3.2
  have e5 := exprU_frz (t := t) e4.2
  have e6 := takeOne_frz (t := t) 59 59 e5.2
  exact ⟨e6.1.trans (e5.1.trans (e4.1.trans (e3.1.trans e2.1))), e6.2⟩
 obtain ⟨rfl, rfl, c, hc1, hnc, hv⟩ := q2
 have hnd := nm_dl hnc
 refine (take_res h2 hb2 58 { f with body := true, related := false, purpose := 1, st := 7 } (fun hc2 => ?_) (fun hc2 => ?_)).bind (fun e => ?_) (fun i3 g3 h3 hb3 q3 => ?_)
 ·rw [next_fixed (.inr (.inr (.inl rfl)))]; exact fixed4 rfl
 ·exact stuck_fixed (.inr (.inr (.inl rfl))) (fun d hdd => fixed4_no rfl (fun e => hc2 (by rw [hdd, e])))
 ·have e3 := label_frz (t := t) e
  have e4 := takeOne_frz (t := t) 61 61 e3.2
  have e5 := exprU_frz (t := t) e4.2
  have e6 := takeOne_frz (t := t) 59 59 e5.2
  exact ⟨e6.1.trans (e5.1.trans (e4.1.trans e3.1)), e6.2⟩
 obtain ⟨rfl, rfl, hc2⟩ := q3
 refine (label_res h3 hb3 rfl).bind (fun e => ?_) (fun i4 g4 h4 hb4 q4 => ?_)
 ·have e4 := takeOne_frz (t := t) 61 61 e
  have e5 := exprU_frz (t := t) e4.2
  have e6 := takeOne_frz (t := t) 59 59 e5.2
  exact ⟨e6.1.trans (e5.1.trans e4.1), e6.2⟩
 obtain ⟨ql, qlt, q16, qp, qs, qd, qc⟩ := q4
 refine (take_res h4 hb4 61 { g4 with st := 10 } (fun hc3 => ?_) (fun hc3 => ?_)).bind (fun e => ?_) (fun i5 g5 h5 hb5 q5 => ?_)
 ·rw [ql.nx 61 hc3]; exact labeled_open ql.purpose
 ·unfold StuckC
  cases hcc : (keptL t)[i4]? with
  | none => exact ql.nd
  | some d => simp only; rw [ql.nx d hcc]; exact labeled_open_no ql.purpose (fun e => hc3 (by rw [hcc, e]))
 ·have e5 := exprU_frz (t := t) e
  have e6 := takeOne_frz (t := t) 59 59 e5.2
  exact ⟨e6.1.trans e5.1, e6.2⟩
 obtain ⟨rfl, rfl, hc3⟩ := q5
 have st1 := takeOne_stp (t := t) (r := r) 94 94 hf.le
 have st2 := st1.trans (takeOne_stp 97 122 st1.le)
 have st3 := st2.trans (takeOne_stp 58 58 st2.le)
 have st4 := st3.trans (label_stp st3.le)
 have st5 := st4.trans (takeOne_stp 61 61 st4.le)
 refine (expr_res (f := { g4 with st := 10 }) h5 hb5 (by rw [st5.depth, hd]; simp only [ql.op]) (st5.fitB hf).fitR (unit10 rfl ⟨61, hc3, by decide⟩) ql.related).bind (fun e => takeOne_frz 59 59 e) (fun i6 g6 h6 hb6 q6 => ?_)
 obtain ⟨qa, qn, qe, qle, qv⟩ := q6
 refine (semi_res h6 hb6 qa qn ?_).bind (fun e => ⟨rfl, e⟩) (fun i7 g7 h7 hb7 q7 => ⟨i7, g7, h7, GoC.refl _ _ _, fun e => (by rw [hb7] at e; cases e), fun _ => ?_⟩)
 ·have := hR.pr
  unfold Fm.paren Fm.top at this ⊢
  simp only [ql.op]
  exact this
 obtain ⟨rfl, rfl, hc59⟩ := q7
 have hl6 := (List.getElem?_eq_some_iff.mp hc59).1
 have hsemi : semiR ((keptL t).drop i) i = semiR ((keptL t).drop i6) i6 := by
  rw [semi_one hc (by decide), semi_one hc1 hnd.2.1, semi_one hc2 (by decide), qs, semi_one hc3 (by decide), qe.semi]
 have hover : overC (keptL t) i = some (i6 + 1) := over_semi hc (by decide) (by decide) hsemi hc59
 have hlab := qc 61 hc3 (by decide)
 have hnb := hnc
 simp [nmB] at hnb
 refine ⟨qa.op.trans ql.op, qa.body.trans ql.body, .inl rfl, by omega, (((PassR.byte hc (by decide)).trans ((PassR.byte hc1 hnd.1).trans (PassR.byte hc2 (by decide)))).trans (qp.trans ((PassR.byte hc3 (by decide)).trans qe.pass))).trans (PassR.byte hc59 (by decide)), ?_⟩
 have hrst : restC (keptL t) i = some ⟨(c.toNat : Int) - 97, ((((((r.takeOne t 94 94).1.takeOne t 97 122).1.takeOne t 58 58).1.label t).2 : Nat) : Int), i4 + 1, i6 + 1 - 1⟩ := by
  unfold restC
  rw [hover, hc]
  simp only
  rw [if_neg (by decide), if_pos trivial, show i + 3 = i + 1 + 1 + 1 by rfl, hlab, hc1]
 refine ⟨hover, ?_, ?_, ⟨94, hc, by simp⟩, ?_, fun e => (by simp at e), fun _ => ?_, q16, qe.ok, by simp, by simp, fun _ => ⟨_, hrst, by simpa using qv⟩⟩
 ·refine ⟨⟨(c.toNat : Int) - 97, ((((((r.takeOne t 94 94).1.takeOne t 97 122).1.takeOne t 58 58).1.label t).2 : Nat) : Int), i4 + 1, i6 + 1 - 1⟩, ?_, ?_, ?_, ?_, ?_, ?_, ?_⟩
  ·exact hrst
  ·simp only; omega
  ·simp only; omega
  ·simp only [Nat.add_sub_cancel]; exact qe.size
  ·simp only [Nat.add_sub_cancel]; unfold namesC; rw [qe.names]; simp
  ·simp [hv]
  ·simp
 ·refine ⟨⟨i, i, i, i⟩, ?_, cutT_nil _ _ _ _, cutT_nil _ _ _ _⟩
  rw [blocks_at hover hi, (List.getElem?_eq_some_iff.mp hc).2]
  simp
 ·rw [at_place hi, h.pos]
 ·show 0 ≤ ((r.takeOne t 94 94).1.takeOne t 97 122).2 ∧ ((r.takeOne t 94 94).1.takeOne t 97 122).2 < 26
  rw [hv]; omega
theorem tell_unit {C : List UInt8} {i : Nat} {f g : Fm} (h : LabSt C i f g) (hp : f.purpose = 2) (hd : ∃ d, C[i - 1]? = some d ∧ dgB d = false) : UnitSt C i g :=
 ⟨h.nd, fun c hc => by rw [h.nx c hc]; exact labeled_tell (h.purpose.trans hp) _, fun _ => hd⟩
theorem sec_unit {t : List UInt8} {r : Rd} {i : Nat} (h : AtI t r i) (hb : r.bad = false) {hi : i < (keptL t).length} (hs : scB (keptL t)[i] = true) (hg : (exprU t r).1.bad = false) : False := by
 have hc : (keptL t)[i]? = some (keptL t)[i] := List.getElem?_eq_getElem hi
 generalize (keptL t)[i] = c at hs hc
 simp [scB] at hs
 have hsee : ∀ a b : UInt8, (c.toNat < a.toNat ∨ b.toNat < c.toNat) → r.seesOne t a b = false := by
  intro a b hab
  rw [sees_at h, hb, hc]
  simp only [inR, UInt8.le_iff_toNat_le]
  simp
  omega
 have hp : ∀ cmp l, (unitU t cmp (r, l)).1.bad = true := by
  intro cmp l
  unfold unitU
  rw [minus_no _ (hsee 45 45 (.inr (by simp; omega)))]
  simp only
  unfold plainU
  simp only
  rw [hsee 48 57 (.inr (by simp; omega)), hsee 97 122 (.inl (by simp; omega)), hsee 40 40 (.inr (by simp; omega))]
  simp
 have : (exprU t r).1.bad = true := by
  show (cmpU t (cmpF t 9) (r, [])).1.bad = true
  have h1 := hp (cmpF t 9) []
  have h2 : prodU t (cmpF t 9) (r, []) = unitU t (cmpF t 9) (r, []) := by unfold prodU; exact prodL_bad h1 _
  have h3 : sumU t (cmpF t 9) (r, []) = unitU t (cmpF t 9) (r, []) := by unfold sumU; rw [h2]; exact sumL_bad h1 _
  unfold cmpU
  rw [h3]
  simp only
  rw [oper_bad h1]
  exact h1
 rw [this] at hg
 cases hg
theorem tell_res {t : List UInt8} {n : Nat} {r : Rd} {i : Nat} {f : Fm} (h : AtI t r i) (hb : r.bad = false) (hd : r.depth = f.op.length) (hf : FitB t r) (hR : RuleSt (keptL t) i f) (s1 : r.seesOne t 97 122 = false) (s2 : r.seesOne t 94 94 = false) (s3 : r.seesOne t 62 62 = true) :
  Rz t (ruleF t n r).1 i f (RuPost t i f n (ruleF t n r).2) := by
 unfold ruleF ruleU
 rw [if_neg (by rw [s1]; decide), if_neg (by rw [s2]; decide), if_pos s3]
 simp only
 have hc := (sees_one h hb 62).mp s3
 have hi := (List.getElem?_eq_some_iff.mp hc).1
 refine (take_res h hb 62 { f with body := true, related := false, purpose := 2, st := 7 } (fun hc => ?_) (fun hn => absurd hc hn)).bind (fun e => ?_) (fun i3 g3 h3 hb3 q3 => ?_)
 ·rw [hR.body hc]; simp [isNm, Fm.to]
 ·have e3 := label_frz (t := t) e
  have e5 := exprU_frz (t := t) e3.2
  have e6 := takeOne_frz (t := t) 59 59 e5.2
  exact ⟨e6.1.trans (e5.1.trans e3.1), e6.2⟩
 obtain ⟨rfl, rfl, _⟩ := q3
 refine (label_res h3 hb3 rfl).bind (fun e => ?_) (fun i4 g4 h4 hb4 q4 => ?_)
 ·have e5 := exprU_frz (t := t) e
  have e6 := takeOne_frz (t := t) 59 59 e5.2
  exact ⟨e6.1.trans e5.1, e6.2⟩
 obtain ⟨ql, qlt, q16, qp, qs, qd, qc⟩ := q4
 have st1 := takeOne_stp (t := t) (r := r) 62 62 hf.le
 have st4 := st1.trans (label_stp st1.le)
 refine (expr_res h4 hb4 (by rw [st4.depth, hd]; simp only [ql.op]) (st4.fitB hf).fitR (tell_unit ql rfl qd) ql.related).bind (fun e => takeOne_frz 59 59 e) (fun i6 g6 h6 hb6 q6 => ?_)
 obtain ⟨qa, qn, qe, qle, qv⟩ := q6
 refine (semi_res h6 hb6 qa qn ?_).bind (fun e => ⟨rfl, e⟩) (fun i7 g7 h7 hb7 q7 => ⟨i7, g7, h7, GoC.refl _ _ _, fun e => (by rw [hb7] at e; cases e), fun _ => ?_⟩)
 ·have := hR.pr
  unfold Fm.paren Fm.top at this ⊢
  rw [ql.op]
  exact this
 obtain ⟨rfl, rfl, hc59⟩ := q7
 have hl6 := (List.getElem?_eq_some_iff.mp hc59).1
 have hsemi : semiR ((keptL t).drop i) i = semiR ((keptL t).drop i6) i6 := by
  rw [semi_one hc (by decide), qs, qe.semi]
 have hover : overC (keptL t) i = some (i6 + 1) := over_semi hc (by decide) (by decide) hsemi hc59
 -- the byte behind the label begins a unit: it is no secret
 have hl4 : i4 < (keptL t).length := by omega
 have hlab : labelC (keptL t) (i + 1) = some (((r.takeOne t 62 62).1.label t).2, i4) := by
  refine qc _ (List.getElem?_eq_getElem hl4) ?_
  cases hsc : scB (keptL t)[i4] with
  | false => rfl
  | true => exact (sec_unit h4 hb4 hsc hb6).elim
 refine ⟨qa.op.trans ql.op, qa.body.trans ql.body, .inl rfl, by omega, ((PassR.byte hc (by decide)).trans (qp.trans qe.pass)).trans (PassR.byte hc59 (by decide)), ?_⟩
 have hrst : restC (keptL t) i = some ⟨-1, ((((r.takeOne t 62 62).1.label t).2 : Nat) : Int), i4, i6 + 1 - 1⟩ := by
  unfold restC
  rw [hover, hc]
  simp only
  rw [if_pos trivial, hlab]
 refine ⟨hover, ?_, ?_, ⟨62, hc, by simp⟩, ?_, fun e => (by simp at e), fun e => (by simp at e), q16, qe.ok, by simp, by simp, fun _ => ⟨_, hrst, by simpa using qv⟩⟩
 ·refine ⟨⟨-1, ((((r.takeOne t 62 62).1.label t).2 : Nat) : Int), i4, i6 + 1 - 1⟩, ?_, ?_, ?_, ?_, ?_, ?_, ?_⟩
  ·exact hrst
  ·simp only; omega
  ·simp only; omega
  ·simp only [Nat.add_sub_cancel]; exact qe.size
  ·simp only [Nat.add_sub_cancel]; unfold namesC; rw [qe.names]; simp
  ·simp
  ·simp
 ·refine ⟨⟨i, i, i, i⟩, ?_, cutT_nil _ _ _ _, cutT_nil _ _ _ _⟩
  rw [blocks_at hover hi, (List.getElem?_eq_some_iff.mp hc).2]
  simp
 ·rw [at_place hi, h.pos]
end Go.Proofs.YtdgmoiflahoihaaGreatDoor
namespace Go.Proofs.YtdgmoiflahoihaaGreatDoor
set_option linter.unusedSimpArgs false
set_option linter.unusedVariables false
theorem opening_frz {t : List UInt8} {r : Rd} (c : UInt8) (h : r.bad = true) : (r.opening t c).pos = r.pos ∧ (r.opening t c).bad = true := by
 have hr := room_bad h
 unfold Rd.opening
 rw [takeOne_bad hr]
 exact ⟨room_pos r, hr⟩
theorem closing_frz {t : List UInt8} {r : Rd} (c : UInt8) (h : r.bad = true) : (r.closing t c).pos = r.pos ∧ (r.closing t c).bad = true := by
 unfold Rd.closing
 rw [takeOne_bad h]
 exact ⟨rfl, h⟩
theorem blockF_frz {t : List UInt8} {n : Nat} {r : Rd} (h : r.bad = true) : (blockF t n r).1.pos = r.pos ∧ (blockF t n r).1.bad = true := by
 have e1 := opening_frz (t := t) 123 h
 have e2 := closing_frz (t := t) 125 e1.2
 cases n with
 | zero => exact ⟨e2.1.trans e1.1, e2.2⟩
 | succ n =>
  show (blockU t (fun r => ruleF t n r) r).1.pos = _ ∧ (blockU t (fun r => ruleF t n r) r).1.bad = true
  unfold blockU
  simp only
  rw [rulesL_bad e1.2]
  exact ⟨e2.1.trans e1.1, e2.2⟩
def BlkPost (t : List UInt8) (i : Nat) (f : Fm) (k : UInt8) (n : Nat) (l : List (RT n)) (i' : Nat) (g : Fm) : Prop :=
 g.op = f.op ∧ g.body = true ∧ g.st = (if k = 49 then 1 else 0) ∧ i + 2 ≤ i' ∧ (keptL t)[i]? = some 123 ∧ (keptL t)[i' - 1]? = some 125 ∧ PassR (keptL t) (i + 1) (i' - 1) ∧ CutT (keptL t) (atL t 0) n (i + 1) (i' - 1) l
def BlkSpec (t : List UInt8) (n : Nat) : Prop := ∀ (r : Rd) (i : Nat) (f g0 : Fm) (k : UInt8), AtI t r i → r.bad = false → r.depth = f.op.length → FitB t r → 8 ≤ r.depth + n → f.op.length < 8 → (k = 49 ∨ k = 50 ∨ k = 108) → g0.op = k :: f.op → g0.st = 0 → g0.body = true →
 ((keptL t)[i]? = some 123 → f.next ((123 : UInt8).toNat : Int) = (g0, true)) → ((keptL t)[i]? ≠ some 123 → StuckC (keptL t) i f) → Rz t (blockF t n r).1 i f (BlkPost t i f k n (blockF t n r).2)
theorem opening_res {t : List UInt8} {r : Rd} {i : Nat} {f : Fm} (h : AtI t r i) (hb : r.bad = false) (hd : r.depth < 8) (k : UInt8) (g : Fm) (hy : (keptL t)[i]? = some k → f.next (k.toNat : Int) = (g, true)) (hn : (keptL t)[i]? ≠ some k → StuckC (keptL t) i f) :
  Rz t (r.opening t k) i f fun i' g' => i' = i + 1 ∧ g' = g ∧ (keptL t)[i]? = some k := by
 have hroom : r.room = r := by unfold Rd.room; rw [if_neg (by omega)]
 obtain ⟨i', g', a1, a2, a3, a4⟩ := take_res h hb k g hy hn
 have : r.opening t k = { (r.takeOne t k k).1 with depth := (r.takeOne t k k).1.depth + 1 } := by unfold Rd.opening; rw [hroom]
 rw [this]
 exact ⟨i', g', ⟨a1.pos, a1.le⟩, a2, a3, a4⟩
theorem closing_res {t : List UInt8} {r : Rd} {i : Nat} {f : Fm} (h : AtI t r i) (hb : r.bad = false) (k : UInt8) (g : Fm) (hy : (keptL t)[i]? = some k → f.next (k.toNat : Int) = (g, true)) (hn : (keptL t)[i]? ≠ some k → StuckC (keptL t) i f) :
  Rz t (r.closing t k) i f fun i' g' => i' = i + 1 ∧ g' = g ∧ (keptL t)[i]? = some k := by
 obtain ⟨i', g', a1, a2, a3, a4⟩ := take_res h hb k g hy hn
 exact ⟨i', g', ⟨a1.pos, a1.le⟩, a2, a3, a4⟩
theorem paren_top {f : Fm} {k : UInt8} {r : List UInt8} (h : f.op = k :: r) (hk : k = 49 ∨ k = 50 ∨ k = 108) : f.paren = false := by
 unfold Fm.paren Fm.top
 rw [h]
 rcases hk with rfl | rfl | rfl <;> simp
def RuleSpec (t : List UInt8) (n : Nat) : Prop := ∀ (r : Rd) (i : Nat) (f : Fm), AtI t r i → r.bad = false → r.depth = f.op.length → FitB t r → 8 ≤ r.depth + n → RuleSt (keptL t) i f → Rz t (ruleF t n r).1 i f (RuPost t i f n (ruleF t n r).2)
theorem rulesL_spec {t : List UInt8} {n : Nat} (hR : RuleSpec t n) (halt : Rd → Bool) (f : Fm) (d : Int) (hd : d = f.op.length) (hd8 : d ≤ 8) (hn : 8 ≤ d + n) (hp : f.paren = false)
  (hh : ∀ (r : Rd) (j : Nat), AtI t r j → r.bad = false → halt r = false → ((keptL t)[j]? ≠ some 125 ∨ f.op = []) ∧ ((keptL t)[j]? = none → ¬ f.op = [])) :
  ∀ (k : Nat) (r : Rd) (j : Nat) (g : Fm), AtI t r j → r.bad = false → r.depth = d → FitB t r → g.op = f.op → (g.body = true ∨ ((keptL t)[j]? ≠ some 63 ∧ (keptL t)[j]? ≠ some 33)) → (g.st = 0 ∨ (g.st = 1 ∧ (keptL t)[j]? ≠ some 123)) → (keptL t).length - j < k →
  Rz t (rulesL (fun r => ruleF t n r) halt k r).1 j g fun j' g' => halt (rulesL (fun r => ruleF t n r) halt k r).1 = true ∧ g'.op = f.op ∧ (g'.body = true ∨ g' = g) ∧ (g'.st = 0 ∨ (g'.st = 1 ∧ (keptL t)[j']? ≠ some 123)) ∧ j ≤ j' ∧ PassR (keptL t) j j' ∧ CutL (fun i o (q : RT (n + 1)) => CutOne (keptL t) (atL t 0) (CutT (keptL t) (atL t 0) n) i o q) j j' (rulesL (fun r => ruleF t n r) halt k r).2
 | 0, r, j, g, h, hb, hdd, hf, hg, hbd, hst, hk => by omega
 | k + 1, r, j, g, h, hb, hdd, hf, hg, hbd, hst, hk => by
  cases hs : halt r
  ·rw [rulesL_step hb hs]
   obtain ⟨hs1, hs2⟩ := hh r j h hb hs
   have hRS : RuleSt (keptL t) j g := ⟨hst, hbd, by unfold Fm.paren Fm.top at hp ⊢; rw [hg]; exact hp, by rw [hg]; exact hs1, fun e => by
    have := hs2 e
    unfold Fm.done
    rw [hg]
    cases hfo : f.op with
    | nil => exact absurd hfo this
    | cons a b => simp⟩
   have hst2 := (ruleF_stp t n hf)
   refine (hR r j g h hb (by rw [hdd, hd, hg]) hf (by omega) hRS).bind (fun e => ?_) (fun j1 g1 h1 hb1 q1 => ?_)
   ·rw [rulesL_bad e]; exact ⟨rfl, e⟩
   obtain ⟨p1, p2, p3, p4, p5, p6⟩ := q1
   obtain ⟨j2, g2, c1, c2, c3, c4⟩ := rulesL_spec hR halt f d hd hd8 hn hp hh k (ruleF t n r).1 j1 g1 h1 hb1 (hst2.1.depth.trans hdd) (hst2.1.fitB hf) (p1.trans hg) (.inl p2) p3 (by have := h1.le; omega)
   refine ⟨j2, g2, c1, c2, c3, fun e => ?_⟩
   obtain ⟨e1, e2, e3, e4, e5, e6, e7⟩ := c4 e
   refine ⟨e1, e2, .inl ?_, e4, by omega, p5.trans e6, ⟨by omega, j1, p6, e7⟩⟩
   rcases e3 with e3 | e3
   ·exact e3
   ·rw [e3]; exact p2
  ·rw [rulesL_stop (rule := fun r => ruleF t n r) hs]
   exact ⟨j, g, h, GoC.refl _ _ _, fun e => (by simp only at e; rw [hb] at e; cases e), fun _ => ⟨hs, hg, .inr rfl, hst, Nat.le_refl _, fun _ _ => rfl, rfl⟩⟩
theorem rule_shut {f : Fm} {k : UInt8} {r : List UInt8} (hst : f.st = 0 ∨ f.st = 1) (h : f.op = k :: r) (hk : k = 49 ∨ k = 50 ∨ k = 108) : f.next ((125 : UInt8).toNat : Int) = ({ f with op := r, st := (if k = 49 then 1 else 0) }, true) := by
 have e : f.next ((125 : UInt8).toNat : Int) = f.rule ((125 : UInt8).toNat : Int) := by
  rcases hst with h | h
  ·exact next0 h _
  ·exact next1 h (by decide)
 rw [e]
 unfold Fm.rule Fm.top Fm.to
 rw [h]
 rcases hk with rfl | rfl | rfl <;> simp
theorem blk_zero (t : List UInt8) : BlkSpec t 0 := fun r i f g0 k h hb hd hf hn h8 => by omega
theorem blk_succ {t : List UInt8} {n : Nat} (hR : RuleSpec t n) : BlkSpec t (n + 1) := by
 intro r i f g0 k h hb hd hf hn h8 hk hg0 hg1 hg2 hy hno
 show Rz t (blockU t (fun r => ruleF t n r) r).1 i f (BlkPost t i f k (n + 1) (blockU t (fun r => ruleF t n r) r).2)
 unfold blockU
 simp only
 have hkl := kept_le t
 obtain ⟨o1, o2, o3, o4, o5⟩ := opening_facts (t := t) (r := r) 123 hf.le
 have d0 := hf.d0
 refine (opening_res h hb (by omega) 123 g0 hy hno).bind (fun e => ?_) (fun i1 g1 h1 hb1 q1 => ?_)
 ·rw [rulesL_bad e]; exact closing_frz 125 e
 obtain ⟨rfl, rfl, hc⟩ := q1
 have hlen : g1.op.length = f.op.length + 1 := by rw [hg0]; rfl
 refine (rulesL_spec hR (fun r => r.seesOne t 125 125) g1 (r.depth + 1) (by rw [hlen, hd]; simp) (by omega) (by omega) (paren_top hg0 hk) (fun r' j h' hb' hs => ⟨.inl (sees_false h' hb' hs), fun _ e => by rw [hg0] at e; cases e⟩) (t.length + 1) (r.opening t 123) (i + 1) g1 h1 hb1 o3 ⟨o2, by omega, by omega⟩ rfl (.inl hg2) (.inl hg1) (by omega)).bind (fun e => closing_frz 125 e) (fun j g h2 hb2 q2 => ?_)
 obtain ⟨p1, p2, p3, p4, p5, p6, p7⟩ := q2
 have hc125 := (sees_one h2 hb2 125).mp p1
 refine (closing_res h2 hb2 125 { g with op := f.op, st := (if k = 49 then 1 else 0) } (fun _ => rule_shut (p4.imp id (fun e => e.1)) (p2.trans hg0) hk) (fun e => absurd hc125 e)).bind (fun e => ⟨rfl, e⟩) (fun i3 g3 h3 hb3 q3 => ⟨i3, g3, h3, GoC.refl _ _ _, fun e => (by rw [hb3] at e; cases e), fun _ => ?_⟩)
 obtain ⟨rfl, rfl, _⟩ := q3
 refine ⟨rfl, ?_, rfl, by omega, hc, by simpa using hc125, by simpa using p6, by simp only [Nat.add_sub_cancel]; exact p7⟩
 rcases p3 with p3 | p3
 ·exact p3
 ·rw [p3]; exact hg2
theorem fixed14 {f : Fm} {k : UInt8} (h : f.st = 14) (hb : f.block = [k]) : f.next ((123 : UInt8).toNat : Int) = ({ f with op := k :: f.op, st := 0 }, true) := by
 rw [next_fixed (.inr (.inr (.inr (.inr (.inr (.inr h))))))]
 simp [Fm.fixed, Fm.to, h, hb]
theorem fixed14_no {C : List UInt8} {i : Nat} {f : Fm} (h : f.st = 14) (hc : C[i]? ≠ some 123) : StuckC C i f := by
 refine stuck_fixed (.inr (.inr (.inr (.inr (.inr (.inr h)))))) (fun c hcc => ?_)
 have k := u8_nat (c := c) (k := 123) (fun e => hc (by rw [hcc, e]))
 simp at k
 have k2 : ¬ (c.toNat : Int) = 123 := by omega
 simp [Fm.fixed, Fm.to, h, k2]
theorem fixed13 {f : Fm} {c : UInt8} (h : f.st = 13) (hd : dgB c = true) (h0 : c ≠ 48) : f.next (c.toNat : Int) = ({ f with block := [108], st := 14 }, true) := by
 have k := u8_nat h0
 simp at k
 have k2 : ¬ (c.toNat : Int) = 48 := by omega
 rw [next_fixed (.inr (.inr (.inr (.inr (.inr (.inl h))))))]
 unfold Fm.fixed
 rw [isDg_u]
 simp [Fm.to, h, hd, k2]
theorem fixed13_no {C : List UInt8} {i : Nat} {f : Fm} (h : f.st = 13) (hc : ∀ c, C[i]? = some c → ¬ (dgB c = true ∧ c ≠ 48)) : StuckC C i f := by
 refine stuck_fixed (.inr (.inr (.inr (.inr (.inr (.inl h)))))) (fun c hcc => ?_)
 have k := hc c hcc
 unfold Fm.fixed
 rw [isDg_u]
 cases hd : dgB c
 ·simp [Fm.to, h]
 ·have : c = 48 := Decidable.byContradiction fun e => k ⟨hd, e⟩
  subst this
  simp [Fm.to, h]
theorem next1_open {f : Fm} (h : f.st = 1) (h8 : f.op.length < 8) : f.next ((123 : UInt8).toNat : Int) = ({ f with op := 50 :: f.op, st := 0 }, true) := by
 unfold Fm.next
 simp [h, h8, Fm.to]
theorem none_res {t : List UInt8} {n : Nat} {r : Rd} {i : Nat} {f : Fm} (h : AtI t r i) (hb : r.bad = false) (hR : RuleSt (keptL t) i f) (s1 : r.seesOne t 97 122 = false) (s2 : r.seesOne t 94 94 = false) (s3 : r.seesOne t 62 62 = false) (s4 : r.seesOne t 40 40 = false) (s5 : r.seesOne t 42 42 = false) :
  Rz t (ruleF t n r).1 i f (RuPost t i f n (ruleF t n r).2) := by
 unfold ruleF ruleU
 rw [if_neg (by rw [s1]; decide), if_neg (by rw [s2]; decide), if_neg (by rw [s3]; decide), if_neg (by rw [s4]; decide), if_neg (by rw [s5]; decide)]
 refine ⟨i, f, ⟨h.pos, h.le⟩, GoC.refl _ _ _, fun _ => ?_, fun e => by cases e⟩
 unfold StuckC
 cases hc : (keptL t)[i]? with
 | none => exact hR.nd hc
 | some c =>
  simp only
  have k2 := u8_nat (c := c) (k := 94) (fun e => sees_false h hb s2 (by rw [hc, e]))
  have k3 := u8_nat (c := c) (k := 62) (fun e => sees_false h hb s3 (by rw [hc, e]))
  have k4 := u8_nat (c := c) (k := 40) (fun e => sees_false h hb s4 (by rw [hc, e]))
  have k5 := u8_nat (c := c) (k := 42) (fun e => sees_false h hb s5 (by rw [hc, e]))
  have k1 : nmB c = false := by rw [sees_at h, hb, hc, inR_nm] at s1; simpa using s1
  simp at k2 k3 k4 k5
  rw [hR.body hc]
  simp only
  rw [isNm_u, if_neg (by rw [k1]; decide), if_neg (by omega), if_neg (by omega), if_neg (fun e => by omega), if_neg (fun e => by omega)]
end Go.Proofs.YtdgmoiflahoihaaGreatDoor
namespace Go.Proofs.YtdgmoiflahoihaaGreatDoor
set_option linter.unusedSimpArgs false
set_option linter.unusedVariables false
theorem blk_pass {t : List UInt8} {i i' : Nat} (h : i + 2 ≤ i') (h1 : (keptL t)[i]? = some 123) (h2 : (keptL t)[i' - 1]? = some 125) (hp : PassR (keptL t) (i + 1) (i' - 1)) : PassR (keptL t) i i' ∧ shutC (keptL t) i = i' := by
 have a := PassR.pair h1 h2 (by decide) (by decide) hp
 have b := shut_pair h1 h2 (by decide) (by decide) hp
 rw [show i' - 1 + 1 = i' by omega] at a b
 exact ⟨a, b⟩
theorem loop_res {t : List UInt8} {n : Nat} (hB : BlkSpec t n) {r : Rd} {i : Nat} {f : Fm} (h : AtI t r i) (hb : r.bad = false) (hd : r.depth = f.op.length) (hf : FitB t r) (hn : 8 ≤ r.depth + n) (hR : RuleSt (keptL t) i f) (s1 : r.seesOne t 97 122 = false) (s2 : r.seesOne t 94 94 = false) (s3 : r.seesOne t 62 62 = false) (s4 : r.seesOne t 40 40 = false) (s5 : r.seesOne t 42 42 = true) :
  Rz t (ruleF t n r).1 i f (RuPost t i f n (ruleF t n r).2) := by
 unfold ruleF ruleU
 rw [if_neg (by rw [s1]; decide), if_neg (by rw [s2]; decide), if_neg (by rw [s3]; decide), if_neg (by rw [s4]; decide), if_pos s5]
 simp only
 have hc := (sees_one h hb 42).mp s5
 have hi := (List.getElem?_eq_some_iff.mp hc).1
 by_cases h8 : f.op.length < 8
 ·have hroom : r.room = r := by unfold Rd.room; rw [if_neg (by omega)]
  rw [hroom]
  refine (take_res h hb 42 { f with body := true, related := false, st := 13 } (fun hc => ?_) (fun hn => absurd hc hn)).bind (fun e => ?_) (fun i1 g1 h1 hb1 q1 => ?_)
  ·rw [hR.body hc]; simp [isNm, Fm.to, h8]
  ·have e1 := takeOne_frz (t := t) 49 57 e
   have e2 := blockF_frz (t := t) (n := n) e1.2
   exact ⟨e2.1.trans e1.1, e2.2⟩
  obtain ⟨rfl, rfl, _⟩ := q1
  have st1 := takeOne_stp (t := t) (r := r) 42 42 hf.le
  have st2 := st1.trans (takeOne_stp 49 57 st1.le)
  have hcnt : Rz t ((r.takeOne t 42 42).1.takeOne t 49 57).1 (i + 1) { f with body := true, related := false, st := 13 } fun i' g => i' = i + 1 + 1 ∧ g = { f with body := true, related := false, block := [108], st := 14 } ∧ ∃ c, (keptL t)[i + 1]? = some c ∧ dgB c = true ∧ c ≠ 48 ∧ ((r.takeOne t 42 42).1.takeOne t 49 57).2 = (c.toNat : Int) - 49 := by
   cases hs : (r.takeOne t 42 42).1.seesOne t 49 57
   ·obtain ⟨e, _⟩ := fail_at h1 hs
    rw [e]
    refine ⟨i + 1, _, ⟨h1.pos, h1.le⟩, GoC.refl _ _ _, fun _ => fixed13_no rfl (fun c hcc hh => ?_), fun e => by cases e⟩
    rw [sees_at h1, hb1, hcc] at hs
    simp only [inR, UInt8.le_iff_toNat_le] at hs
    obtain ⟨hh1, hh2⟩ := hh
    simp [dgB] at hh1
    have := u8_nat hh2
    simp at hs this
    omega
   ·obtain ⟨a1, a2, a3, c, hcc, hlo, hhi, hv⟩ := take_at h1 hs
    rw [UInt8.le_iff_toNat_le] at hlo hhi
    simp at hlo hhi
    have hdc : dgB c = true := by simp [dgB]; omega
    have h48 : c ≠ 48 := by intro e; subst e; simp at hlo
    exact ⟨i + 1 + 1, _, a1, GoC.one ⟨c, hcc, fixed13 rfl hdc h48⟩, fun e => (by rw [a2] at e; cases e), fun _ => ⟨rfl, rfl, c, hcc, hdc, h48, hv⟩⟩
  refine hcnt.bind (fun e => blockF_frz e) (fun i2 g2 h2 hb2 q2 => ?_)
  obtain ⟨rfl, rfl, c, hcc, hdc, h48, hv⟩ := q2
  have dd := dg_dl hdc
  refine (hB _ (i + 1 + 1) { f with body := true, related := false, block := [108], st := 14 } { f with body := true, related := false, block := [108], op := 108 :: f.op, st := 0 } 108 h2 hb2 (by rw [st2.depth]; exact hd) (st2.fitB hf) (by rw [st2.depth]; exact hn) h8 (.inr (.inr rfl)) rfl rfl rfl (fun _ => fixed14 rfl rfl) (fun e => fixed14_no rfl e)).bind (fun e => ⟨rfl, e⟩) (fun i3 g3 h3 hb3 q3 => ⟨i3, g3, h3, GoC.refl _ _ _, fun e => (by rw [hb3] at e; cases e), fun _ => ?_⟩)
  obtain ⟨p1, p2, p3, p4, p5, p6, p7, p8⟩ := q3
  obtain ⟨bp, bs⟩ := blk_pass p4 p5 p6 p7
  have hover : overC (keptL t) i = some i3 := by
   rw [over_at hi, (List.getElem?_eq_some_iff.mp hc).2, if_neg (by decide), if_pos rfl, show i + 2 = i + 1 + 1 by rfl, bs]
  refine ⟨p1, p2, .inl (by rw [p3]; rfl), by omega, (PassR.byte hc (by decide)).trans ((PassR.byte hcc dd.1).trans bp), ?_⟩
  have hdc2 := hdc
  simp [dgB] at hdc2
  have h48n := u8_nat h48
  simp at h48n
  refine ⟨hover, ?_, ?_, ⟨42, hc, by simp⟩, ?_, fun _ => ⟨c, hcc, by omega, by omega, ?_⟩, fun e => (by simp at e), by simp, fun p hp => (by cases hp), by simp, ?_, fun k => absurd rfl k⟩
  ·refine ⟨⟨-1, -1, i, i⟩, ?_, Nat.le_refl _, by simp only; omega, ?_, ?_, by simp, by simp⟩
   ·unfold restC
    rw [hover, hc]
    simp
   ·unfold sizeC; rw [seg_nil (Nat.le_refl _)]; rfl
   ·unfold namesC; rw [seg_nil (Nat.le_refl _)]; rfl
  ·refine ⟨⟨i + 3, i3 - 1, i3, i3⟩, ?_, p8, cutT_nil _ _ _ _⟩
   rw [blocks_at hover hi, (List.getElem?_eq_some_iff.mp hc).2, if_neg (by decide), if_pos rfl, show i + 2 = i + 1 + 1 by rfl, bs, if_pos rfl]
  ·rw [at_place hi, h.pos]
  ·show (1 + ((r.takeOne t 42 42).1.takeOne t 49 57).2 : Int) = _
   rw [hv]; omega
  ·show 0 ≤ (1 + ((r.takeOne t 42 42).1.takeOne t 49 57).2 : Int) ∧ (1 + ((r.takeOne t 42 42).1.takeOne t 49 57).2 : Int) ≤ 9
   rw [hv]; omega
 ·have hrb : r.room.bad = true := by unfold Rd.room; rw [if_pos (by omega)]
  have e0 := takeOne_frz (t := t) 42 42 hrb
  have e1 := takeOne_frz (t := t) 49 57 e0.2
  have e2 := blockF_frz (t := t) (n := n) e1.2
  refine ⟨i, f, ⟨e2.1.trans (e1.1.trans (e0.1.trans ((room_pos r).trans h.pos))), h.le⟩, GoC.refl _ _ _, fun _ => ?_, fun e => ?_⟩
  ·unfold StuckC
   rw [hc]
   simp only
   rw [hR.body hc]
   simp [isNm, h8]
  ·exact absurd (e2.2.symm.trans e) (by decide)
theorem cond_res {t : List UInt8} {n : Nat} (hB : BlkSpec t n) {r : Rd} {i : Nat} {f : Fm} (h : AtI t r i) (hb : r.bad = false) (hd : r.depth = f.op.length) (hf : FitB t r) (hn : 8 ≤ r.depth + n) (hR : RuleSt (keptL t) i f) (s1 : r.seesOne t 97 122 = false) (s2 : r.seesOne t 94 94 = false) (s3 : r.seesOne t 62 62 = false) (s4 : r.seesOne t 40 40 = true) :
  Rz t (ruleF t n r).1 i f (RuPost t i f n (ruleF t n r).2) := by
 unfold ruleF ruleU
 rw [if_neg (by rw [s1]; decide), if_neg (by rw [s2]; decide), if_neg (by rw [s3]; decide), if_pos s4]
 simp only
 have hc := (sees_one h hb 40).mp s4
 have hi := (List.getElem?_eq_some_iff.mp hc).1
 have fo := opening_fitR 40 hf
 obtain ⟨o1, o2, o3, o4, o5⟩ := opening_facts (t := t) (r := r) 40 hf.le
 have ae := expr_stp fo
 have ap := pair_stp 40 41 hf ae
 have fp := ap.fitB hf
 -- what follows from a bad reader
 have hfz : ∀ r' : Rd, r'.bad = true → (if (blockF t n r').1.seesOne t 123 123 = true then ((blockF t n (blockF t n r').1).1, ((⟨3, r.pos, 0, 0, 0, (exprU t (r.opening t 40)).2⟩ : Core), (blockF t n r').2, (blockF t n (blockF t n r').1).2)) else ((blockF t n r').1, ((⟨3, r.pos, 0, 0, 0, (exprU t (r.opening t 40)).2⟩ : Core), (blockF t n r').2, []))).1.pos = r'.pos ∧ (if (blockF t n r').1.seesOne t 123 123 = true then ((blockF t n (blockF t n r').1).1, ((⟨3, r.pos, 0, 0, 0, (exprU t (r.opening t 40)).2⟩ : Core), (blockF t n r').2, (blockF t n (blockF t n r').1).2)) else ((blockF t n r').1, ((⟨3, r.pos, 0, 0, 0, (exprU t (r.opening t 40)).2⟩ : Core), (blockF t n r').2, []))).1.bad = true := by
  intro r' hr'
  have e := blockF_frz (t := t) (n := n) hr'
  rw [bad_sees e.2, if_neg (by decide)]
  exact e
 by_cases h8 : f.op.length < 8
 ·refine (opening_res h hb (by omega) 40 { f with body := true, related := false, op := 99 :: f.op, st := 10 } (fun hc => ?_) (fun hn => absurd hc hn)).bind (fun e => ?_) (fun i1 g1 h1 hb1 q1 => ?_)
  ·rw [hR.body hc]; simp [isNm, Fm.to, h8]
  ·have e1 := exprU_frz (t := t) e
   have e2 := closing_frz (t := t) 41 e1.2
   have e3 := hfz _ e2.2
   exact ⟨e3.1.trans (e2.1.trans e1.1), e3.2⟩
  obtain ⟨rfl, rfl, _⟩ := q1
  refine (expr_res (f := { f with body := true, related := false, op := 99 :: f.op, st := 10 }) h1 hb1 (by rw [o3, hd]; simp) fo (unit10 rfl ⟨40, hc, by decide⟩) rfl).bind (fun e => ?_) (fun i2 g2 h2 hb2 q2 => ?_)
  ·have e2 := closing_frz (t := t) 41 e
   have e3 := hfz _ e2.2
   exact ⟨e3.1.trans e2.1, e3.2⟩
  obtain ⟨qa, qn, qe, qle, qv⟩ := q2
  have htop : g2.top = 99 := by unfold Fm.top; rw [qa.op]; rfl
  refine (closing_res h2 hb2 41 { g2 with op := f.op, related := false, block := [49], st := 14 } (fun hc2 => ?_) (fun hc2 => ?_)).bind (fun e => hfz _ e) (fun i3 g3 h3 hb3 q3 => ?_)
  ·rw [qa.nx 41 hc2 (by decide), after_close_c htop, qa.op]; rfl
  ·unfold StuckC
   cases hcc : (keptL t)[i2]? with
   | none => exact qa.nd
   | some c =>
    simp only
    cases hdc : dgB c
    ·rw [qa.nx c hcc hdc]
     obtain ⟨k1, k2⟩ := qn c hcc
     by_cases h59 : c = 59
     ·subst h59
      refine after_semi_no ?_
      unfold Fm.paren
      rw [htop]; rfl
     ·exact after_no k1 k2 h59 (fun e => hc2 (by rw [hcc, e]))
    ·exact qa.dg c hcc hdc
  obtain ⟨rfl, rfl, hc41⟩ := q3
  have hsh1 : shutC (keptL t) i = i2 + 1 := shut_pair hc hc41 (by decide) (by decide) qe.pass
  have hps1 : PassR (keptL t) i (i2 + 1) := PassR.pair hc hc41 (by decide) (by decide) qe.pass
  have hbl1 := hB ((exprU t (r.opening t 40)).1.closing t 41) (i2 + 1) { g2 with op := f.op, related := false, block := [49], st := 14 } { g2 with op := 49 :: f.op, related := false, block := [49], st := 0 } 49 h3 hb3 (by rw [ap.depth]; exact hd) fp (by rw [ap.depth]; exact hn) h8 (.inl rfl) rfl rfl qa.body (fun _ => fixed14 rfl rfl) (fun e => fixed14_no rfl e)
  have stb := blockF_stp t n _ fp
  generalize hb1e : blockF t n ((exprU t (r.opening t 40)).1.closing t 41) = B1 at *
  refine hbl1.bind (fun e => ?_) (fun i4 g4 h4 hb4 q4 => ?_)
  ·rw [bad_sees e, if_neg (by decide)]
   exact ⟨rfl, e⟩
  obtain ⟨p1, p2, p3, p4, p5, p6, p7, p8⟩ := q4
  obtain ⟨bp, bs⟩ := blk_pass p4 p5 p6 p7
  have hrest : ∀ o, overC (keptL t) i = some o → ∃ e, restC (keptL t) i = some e ∧ e.lo ≤ e.hi ∧ e.hi ≤ (keptL t).length ∧ sizeC (keptL t) e.lo e.hi = (exprU t (r.opening t 40)).2.length ∧ namesC (keptL t) e.lo e.hi = nmBits (exprU t (r.opening t 40)).2 ∧ e.name = -1 ∧ e.label = -1 := by
   intro o ho
   refine ⟨⟨-1, -1, i + 1, i2 + 1 - 1⟩, ?_, by simp only; omega, by have := qe.hj; simp only; omega, ?_, ?_, rfl, rfl⟩
   ·unfold restC
    rw [ho, hc]
    simp [hsh1]
   ·simp only [Nat.add_sub_cancel]; exact qe.size
   ·simp only [Nat.add_sub_cancel]; unfold namesC; rw [qe.names]; simp
  have hval : ∀ o, overC (keptL t) i = some o → ∃ e, restC (keptL t) i = some e ∧ ∃ s, EvH (keptL t) e.lo e.hi s (exprU t (r.opening t 40)).2 := by
   intro o ho
   refine ⟨⟨-1, -1, i + 1, i2 + 1 - 1⟩, ?_, by simpa using qv⟩
   unfold restC
   rw [ho, hc]
   simp [hsh1]
  cases s6 : B1.1.seesOne t 123 123
  ·rw [if_neg (by decide)]
   have hne := sees_false h4 hb4 s6
   refine ⟨i4, g4, h4, GoC.refl _ _ _, fun e => absurd (hb4.symm.trans e) (by decide), fun _ => ?_⟩
   have hover : overC (keptL t) i = some i4 := by
    rw [over_at hi, (List.getElem?_eq_some_iff.mp hc).2, if_pos rfl, hsh1, bs, if_neg hne]
   refine ⟨p1, p2, .inr ⟨by rw [p3]; rfl, hne⟩, by omega, hps1.trans bp, ?_⟩
   refine ⟨hover, ?_, ?_, ⟨40, hc, by simp⟩, ?_, fun e => (by simp at e), fun e => (by simp at e), by simp, qe.ok, by simp, by simp, fun _ => hval _ hover⟩
   ·obtain ⟨e, a1, a2, a3, a4, a5, a6, a7⟩ := hrest _ hover
    exact ⟨e, a1, a2, a3, a4, a5, by simp [a6], by simp [a7]⟩
   ·refine ⟨⟨i2 + 1 + 1, i4 - 1, i4, i4⟩, ?_, p8, cutT_nil _ _ _ _⟩
    rw [blocks_at hover hi, (List.getElem?_eq_some_iff.mp hc).2, if_pos rfl, hsh1, bs, if_pos rfl]
   ·rw [at_place hi, h.pos]
  ·rw [if_pos rfl]
   have hc123 := (sees_one h4 hb4 123).mp s6
   have hdep : B1.1.depth = g4.op.length := by rw [stb.depth, ap.depth, hd, p1]
   refine (hB B1.1 i4 g4 { g4 with op := 50 :: g4.op, st := 0 } 50 h4 hb4 hdep (stb.fitB fp) (by rw [stb.depth, ap.depth]; exact hn) (by rw [p1]; exact h8) (.inr (.inl rfl)) rfl rfl p2 (fun _ => next1_open (by rw [p3]; rfl) (by rw [p1]; exact h8)) (fun e => absurd hc123 e)).bind (fun e => ⟨rfl, e⟩) (fun i5 g5 h5 hb5 q5 => ⟨i5, g5, h5, GoC.refl _ _ _, fun e => (by rw [hb5] at e; cases e), fun _ => ?_⟩)
   obtain ⟨r1, r2, r3, r4, r5, r6, r7, r8⟩ := q5
   obtain ⟨bp2, bs2⟩ := blk_pass r4 r5 r6 r7
   have hover : overC (keptL t) i = some i5 := by
    rw [over_at hi, (List.getElem?_eq_some_iff.mp hc).2, if_pos rfl, hsh1, bs, if_pos hc123, bs2]
   refine ⟨r1.trans p1, r2, .inl (by rw [r3]; rfl), by omega, (hps1.trans bp).trans bp2, ?_⟩
   refine ⟨hover, ?_, ?_, ⟨40, hc, by simp⟩, ?_, fun e => (by simp at e), fun e => (by simp at e), by simp, qe.ok, by simp, by simp, fun _ => hval _ hover⟩
   ·obtain ⟨e, a1, a2, a3, a4, a5, a6, a7⟩ := hrest _ hover
    exact ⟨e, a1, a2, a3, a4, a5, by simp [a6], by simp [a7]⟩
   ·refine ⟨⟨i2 + 1 + 1, i4 - 1, i4 + 1, i5 - 1⟩, ?_, p8, r8⟩
    rw [blocks_at hover hi, (List.getElem?_eq_some_iff.mp hc).2, if_pos rfl, hsh1, bs, if_neg (by omega)]
   ·rw [at_place hi, h.pos]
 ·have hrb : r.room.bad = true := by unfold Rd.room; rw [if_pos (by omega)]
  have e0 : (r.opening t 40).pos = r.pos ∧ (r.opening t 40).bad = true := by
   unfold Rd.opening
   rw [takeOne_bad hrb]
   exact ⟨room_pos r, hrb⟩
  have e1 := exprU_frz (t := t) e0.2
  have e2 := closing_frz (t := t) 41 e1.2
  have e3 := hfz _ e2.2
  refine ⟨i, f, ⟨e3.1.trans (e2.1.trans (e1.1.trans (e0.1.trans h.pos))), h.le⟩, GoC.refl _ _ _, fun _ => ?_, fun e => ?_⟩
  ·unfold StuckC
   rw [hc]
   simp only
   rw [hR.body hc]
   simp [isNm, h8]
  ·exact absurd (e3.2.symm.trans e) (by decide)
theorem rule_res {t : List UInt8} {n : Nat} (hB : BlkSpec t n) : RuleSpec t n := by
 intro r i f h hb hd hf hn hR
 cases s1 : r.seesOne t 97 122
 case true => exact give_res h hb hd hf hR s1
 cases s2 : r.seesOne t 94 94
 case true => exact open_res h hb hd hf hR s1 s2
 cases s3 : r.seesOne t 62 62
 case true => exact tell_res h hb hd hf hR s1 s2 s3
 cases s4 : r.seesOne t 40 40
 case true => exact cond_res hB h hb hd hf hn hR s1 s2 s3 s4
 cases s5 : r.seesOne t 42 42
 case true => exact loop_res hB h hb hd hf hn hR s1 s2 s3 s4 s5
 exact none_res h hb hR s1 s2 s3 s4 s5
theorem blk_spec (t : List UInt8) : ∀ n, BlkSpec t n
 | 0 => blk_zero t
 | n + 1 => blk_succ (rule_res (blk_spec t n))
theorem rule_spec (t : List UInt8) (n : Nat) : RuleSpec t n := rule_res (blk_spec t n)
end Go.Proofs.YtdgmoiflahoihaaGreatDoor
