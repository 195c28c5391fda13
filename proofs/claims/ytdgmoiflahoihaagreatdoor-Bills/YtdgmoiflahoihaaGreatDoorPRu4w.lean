import Derived.Test.YtdgmoiflahoihaaGreatDoorPEvw

namespace Go.Proofs.YtdgmoiflahoihaaGreatDoor
set_option linter.unusedSimpArgs false
set_option linter.unusedVariables false
theorem labeled_open {f : Fm} (h : f.purpose = 1) : f.labeled ((61 : UInt8).toNat : Int) = ({ f with st := 10 }, true) := by simp [Fm.labeled, Fm.to, h]
theorem labeled_open_no {f : Fm} (h : f.purpose = 1) {c : UInt8} (hc : c ≠ 61) : (f.labeled (c.toNat : Int)).2 = false := by
 have k := u8_nat hc
 simp at k
 have k2 : ¬ (c.toNat : Int) = 61 := by omega
 simp [Fm.labeled, h, k2]
theorem labeled_tell {f : Fm} (h : f.purpose = 2) (c : Int) : f.labeled c = f.unit c := by simp [Fm.labeled, h]
theorem labeled_head {f : Fm} (h : f.purpose = 0) : f.labeled ((59 : UInt8).toNat : Int) = ({ f with st := 0 }, true) := by simp [Fm.labeled, Fm.to, h]
theorem labeled_head_no {f : Fm} (h : f.purpose = 0) {c : UInt8} (hc : c ≠ 59) : (f.labeled (c.toNat : Int)).2 = false := by
 have k := u8_nat hc
 simp at k
 have k2 : ¬ (c.toNat : Int) = 59 := by omega
 simp [Fm.labeled, h, k2]
theorem fixed3 {f : Fm} (h : f.st = 3) {c : UInt8} (hc : nmB c = true) : f.fixed (c.toNat : Int) = ({ f with st := 4 }, true) := by
 unfold Fm.fixed; rw [isNm_u]; simp [Fm.to, h, hc]
theorem fixed3_no {f : Fm} (h : f.st = 3) {c : UInt8} (hc : nmB c = false) : (f.fixed (c.toNat : Int)).2 = false := by
 unfold Fm.fixed; rw [isNm_u]; simp [Fm.to, h, hc]
theorem fixed4 {f : Fm} (h : f.st = 4) : f.fixed ((58 : UInt8).toNat : Int) = ({ f with purpose := 1, st := 7 }, true) := by simp [Fm.fixed, Fm.to, h]
theorem fixed4_no {f : Fm} (h : f.st = 4) {c : UInt8} (hc : c ≠ 58) : (f.fixed (c.toNat : Int)).2 = false := by
 have k := u8_nat hc
 simp at k
 have k2 : ¬ (c.toNat : Int) = 58 := by omega
 simp [Fm.fixed, Fm.to, h, k2]
theorem RuleSt.body {C : List UInt8} {i : Nat} {f : Fm} (h : RuleSt C i f) {c : UInt8} (hc : C[i]? = some c) : f.next (c.toNat : Int) =
  (let f := { f with body := true, related := false }
  if isNm (c.toNat : Int) = true then f.to 2
  else if (c.toNat : Int) = 94 then f.to 3
  else if (c.toNat : Int) = 62 then { f with purpose := 2 }.to 7
  else if (c.toNat : Int) = 40 ∧ f.op.length < 8 then { f with op := 99 :: f.op }.to 10
  else if (c.toNat : Int) = 42 ∧ f.op.length < 8 then f.to 13
  else (f, false)) := by
 rw [h.nx hc, rule_body (h.hd.imp id (fun k => ⟨fun e => k.1 (by rw [hc, e]), fun e => k.2 (by rw [hc, e])⟩)) (h.sh.imp (fun k e => k (by rw [hc, e])) id)]
theorem over_semi {C : List UInt8} {i j : Nat} {c : UInt8} (hc : C[i]? = some c) (h40 : c ≠ 40) (h42 : c ≠ 42) (hs : semiR (C.drop i) i = semiR (C.drop j) j) (hj : C[j]? = some 59) : overC C i = some (j + 1) := by
 obtain ⟨hi, he⟩ := List.getElem?_eq_some_iff.mp hc
 obtain ⟨hl, he2⟩ := List.getElem?_eq_some_iff.mp hj
 rw [over_at hi, he, if_neg h40, if_neg h42, hs, List.drop_eq_getElem_cons hl, he2]
 rfl
theorem open_res {t : List UInt8} {n : Nat} {r : Rd} {i : Nat} {f : Fm} (h : AtI t r i) (hb : r.bad = false) (hd : r.depth = f.op.length) (hf : FitB t r) (hR : RuleSt (keptL t) i f) (s1 : r.seesOne t 97 122 = false) (s2 : r.seesOne t 94 94 = true) :
  Rz t (ruleF t n r).1 i f (RuPost t i f n (ruleF t n r).2) := by
 unfold ruleF ruleU
 rw [if_neg (by rw [s1]; decide), if_pos s2]
 simp only
 have hc := (sees_one h hb 94).mp s2
 have hi := (List.getElem?_eq_some_iff.mp hc).1
 refine (take_res h hb 94 { f with body := true, related := false, st := 3 } (fun hc => ?_) (fun hn => absurd hc hn)).bind (fun e => ?_) (fun i1 g1 h1 hb1 q1 => ?_)
 ·rw [hR.body hc]; simp [isNm, Fm.to]
 ·have e1 := takeOne_frz (t := t) 97 122 e
  have e2 := takeOne_frz (t := t) 58 58 e1.2
  have e3 := label_frz (t := t) e2.2
  have e4 := takeOne_frz (t := t) 61 61 e3.2
  have e5 := exprU_frz (t := t) e4.2
  have e6 := takeOne_frz (t := t) 59 59 e5.2
  exact ⟨e6.1.trans (e5.1.trans (e4.1.trans (e3.1.trans (e2.1.trans e1.1)))), e6.2⟩
 obtain ⟨rfl, rfl, _⟩ := q1
 refine (name_res h1 hb1 { f with body := true, related := false, st := 4 } (fun c hc1 hn => ?_) (fun hn => ?_)).bind (fun e => ?_) (fun i2 g2 h2 hb2 q2 => ?_)
 ·rw [next_fixed (.inr (.inl rfl))]; exact fixed3 rfl hn
 ·exact stuck_fixed (.inr (.inl rfl)) (fun d hdd => fixed3_no rfl (hn d hdd))
 ·have e2 := takeOne_frz (t := t) 58 58 e
  have e3 := label_frz (t := t) e2.2
  have e4 := takeOne_frz (t := t) 61 61 e3.2
  have e5 := exprU_frz (t := t) e4.2
  have e6 := takeOne_frz (t := t) 59 59 e5.2
  exact ⟨e6.1.trans (e5.1.trans (e4.1.trans (e3.1.trans e2.1))), e6.2⟩
 obtain ⟨rfl, rfl, c, hc1, hnc, hv⟩ := q2
 have hnd := nm_dl hnc
 refine (take_res h2 hb2 58 { f with body := true, related := false, purpose := 1, st := 7 } (fun hc2 => ?_) (fun hc2 => ?_)).bind (fun e => ?_) (fun i3 g3 h3 hb3 q3 => ?_)
 ·rw [next_fixed (.inr (.inr (.inl rfl)))]; exact fixed4 rfl
 ·exact stuck_fixed (.inr (.inr (.inl rfl))) (fun d hdd => fixed4_no rfl (fun e => hc2 (by rw [hdd, e])))
 ·have e3 := label_frz (t := t) e
  have e4 := takeOne_frz (t := t) 61 61 e3.2
  have e5 := exprU_frz (t := t) e4.2
  have e6 := takeOne_frz (t := t) 59 59 e5.2
  exact ⟨e6.1.trans (e5.1.trans (e4.1.trans e3.1)), e6.2⟩
 obtain ⟨rfl, rfl, hc2⟩ := q3
 refine (label_res h3 hb3 rfl).bind (fun e => ?_) (fun i4 g4 h4 hb4 q4 => ?_)
 ·have e4 := takeOne_frz (t := t) 61 61 e
  have e5 := exprU_frz (t := t) e4.2
  have e6 := takeOne_frz (t := t) 59 59 e5.2
  exact ⟨e6.1.trans (e5.1.trans e4.1), e6.2⟩
 obtain ⟨ql, qlt, q16, qp, qs, qd, qc⟩ := q4
 refine (take_res h4 hb4 61 { g4 with st := 10 } (fun hc3 => ?_) (fun hc3 => ?_)).bind (fun e => ?_) (fun i5 g5 h5 hb5 q5 => ?_)
 ·rw [ql.nx 61 hc3]; exact labeled_open ql.purpose
 ·unfold StuckC
  cases hcc : (keptL t)[i4]? with
  | none => exact ql.nd
  | some d => simp only; rw [ql.nx d hcc]; exact labeled_open_no ql.purpose (fun e => hc3 (by rw [hcc, e]))
 ·have e5 := exprU_frz (t := t) e
  have e6 := takeOne_frz (t := t) 59 59 e5.2
  exact ⟨e6.1.trans e5.1, e6.2⟩
 obtain ⟨rfl, rfl, hc3⟩ := q5
 have st1 := takeOne_stp (t := t) (r := r) 94 94 hf.le
 have st2 := st1.trans (takeOne_stp 97 122 st1.le)
 have st3 := st2.trans (takeOne_stp 58 58 st2.le)
 have st4 := st3.trans (label_stp st3.le)
 have st5 := st4.trans (takeOne_stp 61 61 st4.le)
 refine (expr_res (f := { g4 with st := 10 }) h5 hb5 (by rw [st5.depth, hd]; simp only [ql.op]) (st5.fitB hf).fitR (unit10 rfl ⟨61, hc3, by decide⟩) ql.related).bind (fun e => takeOne_frz 59 59 e) (fun i6 g6 h6 hb6 q6 => ?_)
 obtain ⟨qa, qn, qe, qle, qv⟩ := q6
 refine (semi_res h6 hb6 qa qn ?_).bind (fun e => ⟨rfl, e⟩) (fun i7 g7 h7 hb7 q7 => ⟨i7, g7, h7, GoC.refl _ _ _, fun e => (by rw [hb7] at e; cases e), fun _ => ?_⟩)
 ·have := hR.pr
  unfold Fm.paren Fm.top at this ⊢
  simp only [ql.op]
  exact this
 obtain ⟨rfl, rfl, hc59⟩ := q7
 have hl6 := (List.getElem?_eq_some_iff.mp hc59).1
 have hsemi : semiR ((keptL t).drop i) i = semiR ((keptL t).drop i6) i6 := by
  rw [semi_one hc (by decide), semi_one hc1 hnd.2.1, semi_one hc2 (by decide), qs, semi_one hc3 (by decide), qe.semi]
 have hover : overC (keptL t) i = some (i6 + 1) := over_semi hc (by decide) (by decide) hsemi hc59
 have hlab := qc 61 hc3 (by decide)
 have hnb := hnc
 simp [nmB] at hnb
 refine ⟨qa.op.trans ql.op, qa.body.trans ql.body, .inl rfl, by omega, (((PassR.byte hc (by decide)).trans ((PassR.byte hc1 hnd.1).trans (PassR.byte hc2 (by decide)))).trans (qp.trans ((PassR.byte hc3 (by decide)).trans qe.pass))).trans (PassR.byte hc59 (by decide)), ?_⟩
 have hrst : restC (keptL t) i = some ⟨(c.toNat : Int) - 97, ((((((r.takeOne t 94 94).1.takeOne t 97 122).1.takeOne t 58 58).1.label t).2 : Nat) : Int), i4 + 1, i6 + 1 - 1⟩ := by
  unfold restC
  rw [hover, hc]
  simp only
  rw [if_neg (by decide), if_pos trivial, show i + 3 = i + 1 + 1 + 1 by rfl, hlab, hc1]
 refine ⟨hover, ?_, ?_, ⟨94, hc, by simp⟩, ?_, fun e => (by simp at e), fun _ => ?_, q16, qe.ok, by simp, by simp, fun _ => ⟨_, hrst, by simpa using qv⟩⟩
 ·refine ⟨⟨(c.toNat : Int) - 97, ((((((r.takeOne t 94 94).1.takeOne t 97 122).1.takeOne t 58 58).1.label t).2 : Nat) : Int), i4 + 1, i6 + 1 - 1⟩, ?_, ?_, ?_, ?_, ?_, ?_, ?_⟩
  ·exact hrst
  ·simp only; omega
  ·simp only; omega
  ·simp only [Nat.add_sub_cancel]; exact qe.size
  ·simp only [Nat.add_sub_cancel]; unfold namesC; rw [qe.names]; simp
  ·simp [hv]
  ·simp
 ·refine ⟨⟨i, i, i, i⟩, ?_, cutT_nil _ _ _ _, cutT_nil _ _ _ _⟩
  rw [blocks_at hover hi, (List.getElem?_eq_some_iff.mp hc).2]
  simp
 ·rw [at_place hi, h.pos]
 ·show 0 ≤ ((r.takeOne t 94 94).1.takeOne t 97 122).2 ∧ ((r.takeOne t 94 94).1.takeOne t 97 122).2 < 26
  rw [hv]; omega
theorem tell_unit {C : List UInt8} {i : Nat} {f g : Fm} (h : LabSt C i f g) (hp : f.purpose = 2) (hd : ∃ d, C[i - 1]? = some d ∧ dgB d = false) : UnitSt C i g :=
 ⟨h.nd, fun c hc => by rw [h.nx c hc]; exact labeled_tell (h.purpose.trans hp) _, fun _ => hd⟩
theorem sec_unit {t : List UInt8} {r : Rd} {i : Nat} (h : AtI t r i) (hb : r.bad = false) {hi : i < (keptL t).length} (hs : scB (keptL t)[i] = true) (hg : (exprU t r).1.bad = false) : False := by
 have hc : (keptL t)[i]? = some (keptL t)[i] := List.getElem?_eq_getElem hi
 generalize (keptL t)[i] = c at hs hc
 simp [scB] at hs
 have hsee : ∀ a b : UInt8, (c.toNat < a.toNat ∨ b.toNat < c.toNat) → r.seesOne t a b = false := by
  intro a b hab
  rw [sees_at h, hb, hc]
  simp only [inR, UInt8.le_iff_toNat_le]
  simp
  omega
 have hp : ∀ cmp l, (unitU t cmp (r, l)).1.bad = true := by
  intro cmp l
  unfold unitU
  rw [minus_no _ (hsee 45 45 (.inr (by simp; omega)))]
  simp only
  unfold plainU
  simp only
  rw [hsee 48 57 (.inr (by simp; omega)), hsee 97 122 (.inl (by simp; omega)), hsee 40 40 (.inr (by simp; omega))]
  simp
 have : (exprU t r).1.bad = true := by
  show (cmpU t (cmpF t 9) (r, [])).1.bad = true
  have h1 := hp (cmpF t 9) []
  have h2 : prodU t (cmpF t 9) (r, []) = unitU t (cmpF t 9) (r, []) := by unfold prodU; exact prodL_bad h1 _
  have h3 : sumU t (cmpF t 9) (r, []) = unitU t (cmpF t 9) (r, []) := by unfold sumU; rw [h2]; exact sumL_bad h1 _
  unfold cmpU
  rw [h3]
  simp only
  rw [oper_bad h1]
  exact h1
 rw [this] at hg
 cases hg
theorem tell_res {t : List UInt8} {n : Nat} {r : Rd} {i : Nat} {f : Fm} (h : AtI t r i) (hb : r.bad = false) (hd : r.depth = f.op.length) (hf : FitB t r) (hR : RuleSt (keptL t) i f) (s1 : r.seesOne t 97 122 = false) (s2 : r.seesOne t 94 94 = false) (s3 : r.seesOne t 62 62 = true) :
  Rz t (ruleF t n r).1 i f (RuPost t i f n (ruleF t n r).2) := by
 unfold ruleF ruleU
 rw [if_neg (by rw [s1]; decide), if_neg (by rw [s2]; decide), if_pos s3]
 simp only
 have hc := (sees_one h hb 62).mp s3
 have hi := (List.getElem?_eq_some_iff.mp hc).1
 refine (take_res h hb 62 { f with body := true, related := false, purpose := 2, st := 7 } (fun hc => ?_) (fun hn => absurd hc hn)).bind (fun e => ?_) (fun i3 g3 h3 hb3 q3 => ?_)
 ·rw [hR.body hc]; simp [isNm, Fm.to]
 ·have e3 := label_frz (t := t) e
  have e5 := exprU_frz (t := t) e3.2
  have e6 := takeOne_frz (t := t) 59 59 e5.2
  exact ⟨e6.1.trans (e5.1.trans e3.1), e6.2⟩
 obtain ⟨rfl, rfl, _⟩ := q3
 refine (label_res h3 hb3 rfl).bind (fun e => ?_) (fun i4 g4 h4 hb4 q4 => ?_)
 ·have e5 := exprU_frz (t := t) e
  have e6 := takeOne_frz (t := t) 59 59 e5.2
  exact ⟨e6.1.trans e5.1, e6.2⟩
 obtain ⟨ql, qlt, q16, qp, qs, qd, qc⟩ := q4
 have st1 := takeOne_stp (t := t) (r := r) 62 62 hf.le
 have st4 := st1.trans (label_stp st1.le)
 refine (expr_res h4 hb4 (by rw [st4.depth, hd]; simp only [ql.op]) (st4.fitB hf).fitR (tell_unit ql rfl qd) ql.related).bind (fun e => takeOne_frz 59 59 e) (fun i6 g6 h6 hb6 q6 => ?_)
 obtain ⟨qa, qn, qe, qle, qv⟩ := q6
 refine (semi_res h6 hb6 qa qn ?_).bind (fun e => ⟨rfl, e⟩) (fun i7 g7 h7 hb7 q7 => ⟨i7, g7, h7, GoC.refl _ _ _, fun e => (by rw [hb7] at e; cases e), fun _ => ?_⟩)
 ·have := hR.pr
  unfold Fm.paren Fm.top at this ⊢
  rw [ql.op]
  exact this
 obtain ⟨rfl, rfl, hc59⟩ := q7
 have hl6 := (List.getElem?_eq_some_iff.mp hc59).1
 have hsemi : semiR ((keptL t).drop i) i = semiR ((keptL t).drop i6) i6 := by
  rw [semi_one hc (by decide), qs, qe.semi]
 have hover : overC (keptL t) i = some (i6 + 1) := over_semi hc (by decide) (by decide) hsemi hc59
 -- the byte behind the label begins a unit: it is no secret
 have hl4 : i4 < (keptL t).length := by omega
 have hlab : labelC (keptL t) (i + 1) = some (((r.takeOne t 62 62).1.label t).2, i4) := by
  refine qc _ (List.getElem?_eq_getElem hl4) ?_
  cases hsc : scB (keptL t)[i4] with
  | false => rfl
  | true => exact (sec_unit h4 hb4 hsc hb6).elim
 refine ⟨qa.op.trans ql.op, qa.body.trans ql.body, .inl rfl, by omega, ((PassR.byte hc (by decide)).trans (qp.trans qe.pass)).trans (PassR.byte hc59 (by decide)), ?_⟩
 have hrst : restC (keptL t) i = some ⟨-1, ((((r.takeOne t 62 62).1.label t).2 : Nat) : Int), i4, i6 + 1 - 1⟩ := by
  unfold restC
  rw [hover, hc]
  simp only
  rw [if_pos trivial, hlab]
 refine ⟨hover, ?_, ?_, ⟨62, hc, by simp⟩, ?_, fun e => (by simp at e), fun e => (by simp at e), q16, qe.ok, by simp, by simp, fun _ => ⟨_, hrst, by simpa using qv⟩⟩
 ·refine ⟨⟨-1, ((((r.takeOne t 62 62).1.label t).2 : Nat) : Int), i4, i6 + 1 - 1⟩, ?_, ?_, ?_, ?_, ?_, ?_, ?_⟩
  ·exact hrst
  ·simp only; omega
  ·simp only; omega
  ·simp only [Nat.add_sub_cancel]; exact qe.size
  ·simp only [Nat.add_sub_cancel]; unfold namesC; rw [qe.names]; simp
  ·simp
  ·simp
 ·refine ⟨⟨i, i, i, i⟩, ?_, cutT_nil _ _ _ _, cutT_nil _ _ _ _⟩
  rw [blocks_at hover hi, (List.getElem?_eq_some_iff.mp hc).2]
  simp
 ·rw [at_place hi, h.pos]
end Go.Proofs.YtdgmoiflahoihaaGreatDoor
namespace Go.Proofs.YtdgmoiflahoihaaGreatDoor
set_option linter.unusedSimpArgs false
set_option linter.unusedVariables false
theorem opening_frz {t : List UInt8} {r : Rd} (c : UInt8) (h : r.bad = true) : (r.opening t c).pos = r.pos ∧ (r.opening t c).bad = true := by
 have hr := room_bad h
 unfold Rd.opening
 rw [takeOne_bad hr]
 exact ⟨room_pos r, hr⟩
theorem closing_frz {t : List UInt8} {r : Rd} (c : UInt8) (h : r.bad = true) : (r.closing t c).pos = r.pos ∧ (r.closing t c).bad = true := by
 unfold Rd.closing
 rw [takeOne_bad h]
 exact ⟨rfl, h⟩
theorem blockF_frz {t : List UInt8} {n : Nat} {r : Rd} (h : r.bad = true) : (blockF t n r).1.pos = r.pos ∧ (blockF t n r).1.bad = true := by
 have e1 := opening_frz (t := t) 123 h
 have e2 := closing_frz (t := t) 125 e1.2
 cases n with
 | zero => exact ⟨e2.1.trans e1.1, e2.2⟩
 | succ n =>
  show (blockU t (fun r => ruleF t n r) r).1.pos = _ ∧ (blockU t (fun r => ruleF t n r) r).1.bad = true
  unfold blockU
  simp only
  rw [rulesL_bad e1.2]
  exact ⟨e2.1.trans e1.1, e2.2⟩
def BlkPost (t : List UInt8) (i : Nat) (f : Fm) (k : UInt8) (n : Nat) (l : List (RT n)) (i' : Nat) (g : Fm) : Prop :=
 g.op = f.op ∧ g.body = true ∧ g.st = (if k = 49 then 1 else 0) ∧ i + 2 ≤ i' ∧ (keptL t)[i]? = some 123 ∧ (keptL t)[i' - 1]? = some 125 ∧ PassR (keptL t) (i + 1) (i' - 1) ∧ CutT (keptL t) (atL t 0) n (i + 1) (i' - 1) l
def BlkSpec (t : List UInt8) (n : Nat) : Prop := ∀ (r : Rd) (i : Nat) (f g0 : Fm) (k : UInt8), AtI t r i → r.bad = false → r.depth = f.op.length → FitB t r → 8 ≤ r.depth + n → f.op.length < 8 → (k = 49 ∨ k = 50 ∨ k = 108) → g0.op = k :: f.op → g0.st = 0 → g0.body = true →
 ((keptL t)[i]? = some 123 → f.next ((123 : UInt8).toNat : Int) = (g0, true)) → ((keptL t)[i]? ≠ some 123 → StuckC (keptL t) i f) → Rz t (blockF t n r).1 i f (BlkPost t i f k n (blockF t n r).2)
theorem opening_res {t : List UInt8} {r : Rd} {i : Nat} {f : Fm} (h : AtI t r i) (hb : r.bad = false) (hd : r.depth < 8) (k : UInt8) (g : Fm) (hy : (keptL t)[i]? = some k → f.next (k.toNat : Int) = (g, true)) (hn : (keptL t)[i]? ≠ some k → StuckC (keptL t) i f) :
  Rz t (r.opening t k) i f fun i' g' => i' = i + 1 ∧ g' = g ∧ (keptL t)[i]? = some k := by
 have hroom : r.room = r := by unfold Rd.room; rw [if_neg (by omega)]
 obtain ⟨i', g', a1, a2, a3, a4⟩ := take_res h hb k g hy hn
 have : r.opening t k = { (r.takeOne t k k).1 with depth := (r.takeOne t k k).1.depth + 1 } := by unfold Rd.opening; rw [hroom]
 rw [this]
 exact ⟨i', g', ⟨a1.pos, a1.le⟩, a2, a3, a4⟩
theorem closing_res {t : List UInt8} {r : Rd} {i : Nat} {f : Fm} (h : AtI t r i) (hb : r.bad = false) (k : UInt8) (g : Fm) (hy : (keptL t)[i]? = some k → f.next (k.toNat : Int) = (g, true)) (hn : (keptL t)[i]? ≠ some k → StuckC (keptL t) i f) :
  Rz t (r.closing t k) i f fun i' g' => i' = i + 1 ∧ g' = g ∧ (keptL t)[i]? = some k := by
 obtain ⟨i', g', a1, a2, a3, a4⟩ := take_res h hb k g hy hn
 exact ⟨i', g', ⟨a1.pos, a1.le⟩, a2, a3, a4⟩
theorem paren_top {f : Fm} {k : UInt8} {r : List UInt8} (h : f.op = k :: r) (hk : k = 49 ∨ k = 50 ∨ k = 108) : f.paren = false := by
 unfold Fm.paren Fm.top
 rw [h]
 rcases hk with rfl | rfl | rfl <;> simp
def RuleSpec (t : List UInt8) (n : Nat) : Prop := ∀ (r : Rd) (i : Nat) (f : Fm), AtI t r i → r.bad = false → r.depth = f.op.length → FitB t r → 8 ≤ r.depth + n → RuleSt (keptL t) i f → Rz t (ruleF t n r).1 i f (RuPost t i f n (ruleF t n r).2)
theorem rulesL_spec {t : List UInt8} {n : Nat} (hR : RuleSpec t n) (halt : Rd → Bool) (f : Fm) (d : Int) (hd : d = f.op.length) (hd8 : d ≤ 8) (hn : 8 ≤ d + n) (hp : f.paren = false)
  (hh : ∀ (r : Rd) (j : Nat), AtI t r j → r.bad = false → halt r = false → ((keptL t)[j]? ≠ some 125 ∨ f.op = []) ∧ ((keptL t)[j]? = none → ¬ f.op = [])) :
  ∀ (k : Nat) (r : Rd) (j : Nat) (g : Fm), AtI t r j → r.bad = false → r.depth = d → FitB t r → g.op = f.op → (g.body = true ∨ ((keptL t)[j]? ≠ some 63 ∧ (keptL t)[j]? ≠ some 33)) → (g.st = 0 ∨ (g.st = 1 ∧ (keptL t)[j]? ≠ some 123)) → (keptL t).length - j < k →
  Rz t (rulesL (fun r => ruleF t n r) halt k r).1 j g fun j' g' => halt (rulesL (fun r => ruleF t n r) halt k r).1 = true ∧ g'.op = f.op ∧ (g'.body = true ∨ g' = g) ∧ (g'.st = 0 ∨ (g'.st = 1 ∧ (keptL t)[j']? ≠ some 123)) ∧ j ≤ j' ∧ PassR (keptL t) j j' ∧ CutL (fun i o (q : RT (n + 1)) => CutOne (keptL t) (atL t 0) (CutT (keptL t) (atL t 0) n) i o q) j j' (rulesL (fun r => ruleF t n r) halt k r).2
 | 0, r, j, g, h, hb, hdd, hf, hg, hbd, hst, hk => by omega
 | k + 1, r, j, g, h, hb, hdd, hf, hg, hbd, hst, hk => by
  cases hs : halt r
  ·rw [rulesL_step hb hs]
   obtain ⟨hs1, hs2⟩ := hh r j h hb hs
   have hRS : RuleSt (keptL t) j g := ⟨hst, hbd, by unfold Fm.paren Fm.top at hp ⊢; rw [hg]; exact hp, by rw [hg]; exact hs1, fun e => by
    have := hs2 e
    unfold Fm.done
    rw [hg]
    cases hfo : f.op with
    | nil => exact absurd hfo this
    | cons a b => simp⟩
   have hst2 := (ruleF_stp t n hf)
   refine (hR r j g h hb (by rw [hdd, hd, hg]) hf (by omega) hRS).bind (fun e => ?_) (fun j1 g1 h1 hb1 q1 => ?_)
   ·rw [rulesL_bad e]; exact ⟨rfl, e⟩
   obtain ⟨p1, p2, p3, p4, p5, p6⟩ := q1
   obtain ⟨j2, g2, c1, c2, c3, c4⟩ := rulesL_spec hR halt f d hd hd8 hn hp hh k (ruleF t n r).1 j1 g1 h1 hb1 (hst2.1.depth.trans hdd) (hst2.1.fitB hf) (p1.trans hg) (.inl p2) p3 (by have := h1.le; omega)
   refine ⟨j2, g2, c1, c2, c3, fun e => ?_⟩
   obtain ⟨e1, e2, e3, e4, e5, e6, e7⟩ := c4 e
   refine ⟨e1, e2, .inl ?_, e4, by omega, p5.trans e6, ⟨by omega, j1, p6, e7⟩⟩
   rcases e3 with e3 | e3
   ·exact e3
   ·rw [e3]; exact p2
  ·rw [rulesL_stop (rule := fun r => ruleF t n r) hs]
   exact ⟨j, g, h, GoC.refl _ _ _, fun e => (by simp only at e; rw [hb] at e; cases e), fun _ => ⟨hs, hg, .inr rfl, hst, Nat.le_refl _, fun _ _ => rfl, rfl⟩⟩
theorem rule_shut {f : Fm} {k : UInt8} {r : List UInt8} (hst : f.st = 0 ∨ f.st = 1) (h : f.op = k :: r) (hk : k = 49 ∨ k = 50 ∨ k = 108) : f.next ((125 : UInt8).toNat : Int) = ({ f with op := r, st := (if k = 49 then 1 else 0) }, true) := by
 have e : f.next ((125 : UInt8).toNat : Int) = f.rule ((125 : UInt8).toNat : Int) := by
  rcases hst with h | h
  ·exact next0 h _
  ·exact next1 h (by decide)
 rw [e]
 unfold Fm.rule Fm.top Fm.to
 rw [h]
 rcases hk with rfl | rfl | rfl <;> simp
theorem blk_zero (t : List UInt8) : BlkSpec t 0 := fun r i f g0 k h hb hd hf hn h8 => by omega
theorem blk_succ {t : List UInt8} {n : Nat} (hR : RuleSpec t n) : BlkSpec t (n + 1) := by
 intro r i f g0 k h hb hd hf hn h8 hk hg0 hg1 hg2 hy hno
 show Rz t (blockU t (fun r => ruleF t n r) r).1 i f (BlkPost t i f k (n + 1) (blockU t (fun r => ruleF t n r) r).2)
 unfold blockU
 simp only
 have hkl := kept_le t
 obtain ⟨o1, o2, o3, o4, o5⟩ := opening_facts (t := t) (r := r) 123 hf.le
 have d0 := hf.d0
 refine (opening_res h hb (by omega) 123 g0 hy hno).bind (fun e => ?_) (fun i1 g1 h1 hb1 q1 => ?_)
 ·rw [rulesL_bad e]; exact closing_frz 125 e
 obtain ⟨rfl, rfl, hc⟩ := q1
 have hlen : g1.op.length = f.op.length + 1 := by rw [hg0]; rfl
 refine (rulesL_spec hR (fun r => r.seesOne t 125 125) g1 (r.depth + 1) (by rw [hlen, hd]; simp) (by omega) (by omega) (paren_top hg0 hk) (fun r' j h' hb' hs => ⟨.inl (sees_false h' hb' hs), fun _ e => by rw [hg0] at e; cases e⟩) (t.length + 1) (r.opening t 123) (i + 1) g1 h1 hb1 o3 ⟨o2, by omega, by omega⟩ rfl (.inl hg2) (.inl hg1) (by omega)).bind (fun e => closing_frz 125 e) (fun j g h2 hb2 q2 => ?_)
 obtain ⟨p1, p2, p3, p4, p5, p6, p7⟩ := q2
 have hc125 := (sees_one h2 hb2 125).mp p1
 refine (closing_res h2 hb2 125 { g with op := f.op, st := (if k = 49 then 1 else 0) } (fun _ => rule_shut (p4.imp id (fun e => e.1)) (p2.trans hg0) hk) (fun e => absurd hc125 e)).bind (fun e => ⟨rfl, e⟩) (fun i3 g3 h3 hb3 q3 => ⟨i3, g3, h3, GoC.refl _ _ _, fun e => (by rw [hb3] at e; cases e), fun _ => ?_⟩)
 obtain ⟨rfl, rfl, _⟩ := q3
 refine ⟨rfl, ?_, rfl, by omega, hc, by simpa using hc125, by simpa using p6, by simp only [Nat.add_sub_cancel]; exact p7⟩
 rcases p3 with p3 | p3
 ·exact p3
 ·rw [p3]; exact hg2
theorem fixed14 {f : Fm} {k : UInt8} (h : f.st = 14) (hb : f.block = [k]) : f.next ((123 : UInt8).toNat : Int) = ({ f with op := k :: f.op, st := 0 }, true) := by
 rw [next_fixed (.inr (.inr (.inr (.inr (.inr (.inr h))))))]
 simp [Fm.fixed, Fm.to, h, hb]
theorem fixed14_no {C : List UInt8} {i : Nat} {f : Fm} (h : f.st = 14) (hc : C[i]? ≠ some 123) : StuckC C i f := by
 refine stuck_fixed (.inr (.inr (.inr (.inr (.inr (.inr h)))))) (fun c hcc => ?_)
 have k := u8_nat (c := c) (k := 123) (fun e => hc (by rw [hcc, e]))
 simp at k
 have k2 : ¬ (c.toNat : Int) = 123 := by omega
 simp [Fm.fixed, Fm.to, h, k2]
theorem fixed13 {f : Fm} {c : UInt8} (h : f.st = 13) (hd : dgB c = true) (h0 : c ≠ 48) : f.next (c.toNat : Int) = ({ f with block := [108], st := 14 }, true) := by
 have k := u8_nat h0
 simp at k
 have k2 : ¬ (c.toNat : Int) = 48 := by omega
 rw [next_fixed (.inr (.inr (.inr (.inr (.inr (.inl h))))))]
 unfold Fm.fixed
 rw [isDg_u]
 simp [Fm.to, h, hd, k2]
theorem fixed13_no {C : List UInt8} {i : Nat} {f : Fm} (h : f.st = 13) (hc : ∀ c, C[i]? = some c → ¬ (dgB c = true ∧ c ≠ 48)) : StuckC C i f := by
 refine stuck_fixed (.inr (.inr (.inr (.inr (.inr (.inl h)))))) (fun c hcc => ?_)
 have k := hc c hcc
 unfold Fm.fixed
 rw [isDg_u]
 cases hd : dgB c
 ·simp [Fm.to, h]
 ·have : c = 48 := Decidable.byContradiction fun e => k ⟨hd, e⟩
  subst this
  simp [Fm.to, h]
theorem next1_open {f : Fm} (h : f.st = 1) (h8 : f.op.length < 8) : f.next ((123 : UInt8).toNat : Int) = ({ f with op := 50 :: f.op, st := 0 }, true) := by
 unfold Fm.next
 simp [h, h8, Fm.to]
theorem none_res {t : List UInt8} {n : Nat} {r : Rd} {i : Nat} {f : Fm} (h : AtI t r i) (hb : r.bad = false) (hR : RuleSt (keptL t) i f) (s1 : r.seesOne t 97 122 = false) (s2 : r.seesOne t 94 94 = false) (s3 : r.seesOne t 62 62 = false) (s4 : r.seesOne t 40 40 = false) (s5 : r.seesOne t 42 42 = false) :
  Rz t (ruleF t n r).1 i f (RuPost t i f n (ruleF t n r).2) := by
 unfold ruleF ruleU
 rw [if_neg (by rw [s1]; decide), if_neg (by rw [s2]; decide), if_neg (by rw [s3]; decide), if_neg (by rw [s4]; decide), if_neg (by rw [s5]; decide)]
 refine ⟨i, f, ⟨h.pos, h.le⟩, GoC.refl _ _ _, fun _ => ?_, fun e => by cases e⟩
 unfold StuckC
 cases hc : (keptL t)[i]? with
 | none => exact hR.nd hc
 | some c =>
  simp only
  have k2 := u8_nat (c := c) (k := 94) (fun e => sees_false h hb s2 (by rw [hc, e]))
  have k3 := u8_nat (c := c) (k := 62) (fun e => sees_false h hb s3 (by rw [hc, e]))
  have k4 := u8_nat (c := c) (k := 40) (fun e => sees_false h hb s4 (by rw [hc, e]))
  have k5 := u8_nat (c := c) (k := 42) (fun e => sees_false h hb s5 (by rw [hc, e]))
  have k1 : nmB c = false := by rw [sees_at h, hb, hc, inR_nm] at s1; simpa using s1
  simp at k2 k3 k4 k5
  rw [hR.body hc]
  simp only
  rw [isNm_u, if_neg (by rw [k1]; decide), if_neg (by omega), if_neg (by omega), if_neg (fun e => by omega), if_neg (fun e => by omega)]
end Go.Proofs.YtdgmoiflahoihaaGreatDoor
namespace Go.Proofs.YtdgmoiflahoihaaGreatDoor
set_option linter.unusedSimpArgs false
set_option linter.unusedVariables false
theorem blk_pass {t : List UInt8} {i i' : Nat} (h : i + 2 ≤ i') (h1 : (keptL t)[i]? = some 123) (h2 : (keptL t)[i' - 1]? = some 125) (hp : PassR (keptL t) (i + 1) (i' - 1)) : PassR (keptL t) i i' ∧ shutC (keptL t) i = i' := by
 have a := PassR.pair h1 h2 (by decide) (by decide) hp
 have b := shut_pair h1 h2 (by decide) (by decide) hp
 rw [show i' - 1 + 1 = i' by omega] at a b
 exact ⟨a, b⟩
theorem loop_res {t : List UInt8} {n : Nat} (hB : BlkSpec t n) {r : Rd} {i : Nat} {f : Fm} (h : AtI t r i) (hb : r.bad = false) (hd : r.depth = f.op.length) (hf : FitB t r) (hn : 8 ≤ r.depth + n) (hR : RuleSt (keptL t) i f) (s1 : r.seesOne t 97 122 = false) (s2 : r.seesOne t 94 94 = false) (s3 : r.seesOne t 62 62 = false) (s4 : r.seesOne t 40 40 = false) (s5 : r.seesOne t 42 42 = true) :
  Rz t (ruleF t n r).1 i f (RuPost t i f n (ruleF t n r).2) := by
 unfold ruleF ruleU
 rw [if_neg (by rw [s1]; decide), if_neg (by rw [s2]; decide), if_neg (by rw [s3]; decide), if_neg (by rw [s4]; decide), if_pos s5]
 simp only
 have hc := (sees_one h hb 42).mp s5
 have hi := (List.getElem?_eq_some_iff.mp hc).1
 by_cases h8 : f.op.length < 8
 ·have hroom : r.room = r := by unfold Rd.room; rw [if_neg (by omega)]
  rw [hroom]
  refine (take_res h hb 42 { f with body := true, related := false, st := 13 } (fun hc => ?_) (fun hn => absurd hc hn)).bind (fun e => ?_) (fun i1 g1 h1 hb1 q1 => ?_)
  ·rw [hR.body hc]; simp [isNm, Fm.to, h8]
  ·have e1 := takeOne_frz (t := t) 49 57 e
   have e2 := blockF_frz (t := t) (n := n) e1.2
   exact ⟨e2.1.trans e1.1, e2.2⟩
  obtain ⟨rfl, rfl, _⟩ := q1
  have st1 := takeOne_stp (t := t) (r := r) 42 42 hf.le
  have st2 := st1.trans (takeOne_stp 49 57 st1.le)
  have hcnt : Rz t ((r.takeOne t 42 42).1.takeOne t 49 57).1 (i + 1) { f with body := true, related := false, st := 13 } fun i' g => i' = i + 1 + 1 ∧ g = { f with body := true, related := false, block := [108], st := 14 } ∧ ∃ c, (keptL t)[i + 1]? = some c ∧ dgB c = true ∧ c ≠ 48 ∧ ((r.takeOne t 42 42).1.takeOne t 49 57).2 = (c.toNat : Int) - 49 := by
   cases hs : (r.takeOne t 42 42).1.seesOne t 49 57
   ·obtain ⟨e, _⟩ := fail_at h1 hs
    rw [e]
    refine ⟨i + 1, _, ⟨h1.pos, h1.le⟩, GoC.refl _ _ _, fun _ => fixed13_no rfl (fun c hcc hh => ?_), fun e => by cases e⟩
    rw [sees_at h1, hb1, hcc] at hs
    simp only [inR, UInt8.le_iff_toNat_le] at hs
    obtain ⟨hh1, hh2⟩ := hh
    simp [dgB] at hh1
    have := u8_nat hh2
    simp at hs this
    omega
   ·obtain ⟨a1, a2, a3, c, hcc, hlo, hhi, hv⟩ := take_at h1 hs
    rw [UInt8.le_iff_toNat_le] at hlo hhi
    simp at hlo hhi
    have hdc : dgB c = true := by simp [dgB]; omega
    have h48 : c ≠ 48 := by intro e; subst e; simp at hlo
    exact ⟨i + 1 + 1, _, a1, GoC.one ⟨c, hcc, fixed13 rfl hdc h48⟩, fun e => (by rw [a2] at e; cases e), fun _ => ⟨rfl, rfl, c, hcc, hdc, h48, hv⟩⟩
  refine hcnt.bind (fun e => blockF_frz e) (fun i2 g2 h2 hb2 q2 => ?_)
  obtain ⟨rfl, rfl, c, hcc, hdc, h48, hv⟩ := q2
  have dd := dg_dl hdc
  refine (hB _ (i + 1 + 1) { f with body := true, related := false, block := [108], st := 14 } { f with body := true, related := false, block := [108], op := 108 :: f.op, st := 0 } 108 h2 hb2 (by rw [st2.depth]; exact hd) (st2.fitB hf) (by rw [st2.depth]; exact hn) h8 (.inr (.inr rfl)) rfl rfl rfl (fun _ => fixed14 rfl rfl) (fun e => fixed14_no rfl e)).bind (fun e => ⟨rfl, e⟩) (fun i3 g3 h3 hb3 q3 => ⟨i3, g3, h3, GoC.refl _ _ _, fun e => (by rw [hb3] at e; cases e), fun _ => ?_⟩)
  obtain ⟨p1, p2, p3, p4, p5, p6, p7, p8⟩ := q3
  obtain ⟨bp, bs⟩ := blk_pass p4 p5 p6 p7
  have hover : overC (keptL t) i = some i3 := by
   rw [over_at hi, (List.getElem?_eq_some_iff.mp hc).2, if_neg (by decide), if_pos rfl, show i + 2 = i + 1 + 1 by rfl, bs]
  refine ⟨p1, p2, .inl (by rw [p3]; rfl), by omega, (PassR.byte hc (by decide)).trans ((PassR.byte hcc dd.1).trans bp), ?_⟩
  have hdc2 := hdc
  simp [dgB] at hdc2
  have h48n := u8_nat h48
  simp at h48n
  refine ⟨hover, ?_, ?_, ⟨42, hc, by simp⟩, ?_, fun _ => ⟨c, hcc, by omega, by omega, ?_⟩, fun e => (by simp at e), by simp, fun p hp => (by cases hp), by simp, ?_, fun k => absurd rfl k⟩
  ·refine ⟨⟨-1, -1, i, i⟩, ?_, Nat.le_refl _, by simp only; omega, ?_, ?_, by simp, by simp⟩
   ·unfold restC
    rw [hover, hc]
    simp
   ·unfold sizeC; rw [seg_nil (Nat.le_refl _)]; rfl
   ·unfold namesC; rw [seg_nil (Nat.le_refl _)]; rfl
  ·refine ⟨⟨i + 3, i3 - 1, i3, i3⟩, ?_, p8, cutT_nil _ _ _ _⟩
   rw [blocks_at hover hi, (List.getElem?_eq_some_iff.mp hc).2, if_neg (by decide), if_pos rfl, show i + 2 = i + 1 + 1 by rfl, bs, if_pos rfl]
  ·rw [at_place hi, h.pos]
  ·show (1 + ((r.takeOne t 42 42).1.takeOne t 49 57).2 : Int) = _
   rw [hv]; omega
  ·show 0 ≤ (1 + ((r.takeOne t 42 42).1.takeOne t 49 57).2 : Int) ∧ (1 + ((r.takeOne t 42 42).1.takeOne t 49 57).2 : Int) ≤ 9
   rw [hv]; omega
 ·have hrb : r.room.bad = true := by unfold Rd.room; rw [if_pos (by omega)]
  have e0 := takeOne_frz (t := t) 42 42 hrb
  have e1 := takeOne_frz (t := t) 49 57 e0.2
  have e2 := blockF_frz (t := t) (n := n) e1.2
  refine ⟨i, f, ⟨e2.1.trans (e1.1.trans (e0.1.trans ((room_pos r).trans h.pos))), h.le⟩, GoC.refl _ _ _, fun _ => ?_, fun e => ?_⟩
  ·unfold StuckC
   rw [hc]
   simp only
   rw [hR.body hc]
   simp [isNm, h8]
  ·exact absurd (e2.2.symm.trans e) (by decide)
theorem cond_res {t : List UInt8} {n : Nat} (hB : BlkSpec t n) {r : Rd} {i : Nat} {f : Fm} (h : AtI t r i) (hb : r.bad = false) (hd : r.depth = f.op.length) (hf : FitB t r) (hn : 8 ≤ r.depth + n) (hR : RuleSt (keptL t) i f) (s1 : r.seesOne t 97 122 = false) (s2 : r.seesOne t 94 94 = false) (s3 : r.seesOne t 62 62 = false) (s4 : r.seesOne t 40 40 = true) :
  Rz t (ruleF t n r).1 i f (RuPost t i f n (ruleF t n r).2) := by
 unfold ruleF ruleU
 rw [if_neg (by rw [s1]; decide), if_neg (by rw [s2]; decide), if_neg (by rw [s3]; decide), if_pos s4]
 simp only
 have hc := (sees_one h hb 40).mp s4
 have hi := (List.getElem?_eq_some_iff.mp hc).1
 have fo := opening_fitR 40 hf
 obtain ⟨o1, o2, o3, o4, o5⟩ := opening_facts (t := t) (r := r) 40 hf.le
 have ae := expr_stp fo
 have ap := pair_stp 40 41 hf ae
 have fp := ap.fitB hf
 -- what follows from a bad reader
 have hfz : ∀ r' : Rd, r'.bad = true → (if (blockF t n r').1.seesOne t 123 123 = true then ((blockF t n (blockF t n r').1).1, ((⟨3, r.pos, 0, 0, 0, (exprU t (r.opening t 40)).2⟩ : Core), (blockF t n r').2, (blockF t n (blockF t n r').1).2)) else ((blockF t n r').1, ((⟨3, r.pos, 0, 0, 0, (exprU t (r.opening t 40)).2⟩ : Core), (blockF t n r').2, []))).1.pos = r'.pos ∧ (if (blockF t n r').1.seesOne t 123 123 = true then ((blockF t n (blockF t n r').1).1, ((⟨3, r.pos, 0, 0, 0, (exprU t (r.opening t 40)).2⟩ : Core), (blockF t n r').2, (blockF t n (blockF t n r').1).2)) else ((blockF t n r').1, ((⟨3, r.pos, 0, 0, 0, (exprU t (r.opening t 40)).2⟩ : Core), (blockF t n r').2, []))).1.bad = true := by
  intro r' hr'
  have e := blockF_frz (t := t) (n := n) hr'
  rw [bad_sees e.2, if_neg (by decide)]
  exact e
 by_cases h8 : f.op.length < 8
 ·refine (opening_res h hb (by omega) 40 { f with body := true, related := false, op := 99 :: f.op, st := 10 } (fun hc => ?_) (fun hn => absurd hc hn)).bind (fun e => ?_) (fun i1 g1 h1 hb1 q1 => ?_)
  ·rw [hR.body hc]; simp [isNm, Fm.to, h8]
  ·have e1 := exprU_frz (t := t) e
   have e2 := closing_frz (t := t) 41 e1.2
   have e3 := hfz _ e2.2
   exact ⟨e3.1.trans (e2.1.trans e1.1), e3.2⟩
  obtain ⟨rfl, rfl, _⟩ := q1
  refine (expr_res (f := { f with body := true, related := false, op := 99 :: f.op, st := 10 }) h1 hb1 (by rw [o3, hd]; simp) fo (unit10 rfl ⟨40, hc, by decide⟩) rfl).bind (fun e => ?_) (fun i2 g2 h2 hb2 q2 => ?_)
  ·have e2 := closing_frz (t := t) 41 e
   have e3 := hfz _ e2.2
   exact ⟨e3.1.trans e2.1, e3.2⟩
  obtain ⟨qa, qn, qe, qle, qv⟩ := q2
  have htop : g2.top = 99 := by unfold Fm.top; rw [qa.op]; rfl
  refine (closing_res h2 hb2 41 { g2 with op := f.op, related := false, block := [49], st := 14 } (fun hc2 => ?_) (fun hc2 => ?_)).bind (fun e => hfz _ e) (fun i3 g3 h3 hb3 q3 => ?_)
  ·rw [qa.nx 41 hc2 (by decide), after_close_c htop, qa.op]; rfl
  ·unfold StuckC
   cases hcc : (keptL t)[i2]? with
   | none => exact qa.nd
   | some c =>
    simp only
    cases hdc : dgB c
    ·rw [qa.nx c hcc hdc]
     obtain ⟨k1, k2⟩ := qn c hcc
     by_cases h59 : c = 59
     ·subst h59
      refine after_semi_no ?_
      unfold Fm.paren
      rw [htop]; rfl
     ·exact after_no k1 k2 h59 (fun e => hc2 (by rw [hcc, e]))
    ·exact qa.dg c hcc hdc
  obtain ⟨rfl, rfl, hc41⟩ := q3
  have hsh1 : shutC (keptL t) i = i2 + 1 := shut_pair hc hc41 (by decide) (by decide) qe.pass
  have hps1 : PassR (keptL t) i (i2 + 1) := PassR.pair hc hc41 (by decide) (by decide) qe.pass
  have hbl1 := hB ((exprU t (r.opening t 40)).1.closing t 41) (i2 + 1) { g2 with op := f.op, related := false, block := [49], st := 14 } { g2 with op := 49 :: f.op, related := false, block := [49], st := 0 } 49 h3 hb3 (by rw [ap.depth]; exact hd) fp (by rw [ap.depth]; exact hn) h8 (.inl rfl) rfl rfl qa.body (fun _ => fixed14 rfl rfl) (fun e => fixed14_no rfl e)
  have stb := blockF_stp t n _ fp
  generalize hb1e : blockF t n ((exprU t (r.opening t 40)).1.closing t 41) = B1 at *
  refine hbl1.bind (fun e => ?_) (fun i4 g4 h4 hb4 q4 => ?_)
  ·rw [bad_sees e, if_neg (by decide)]
   exact ⟨rfl, e⟩
  obtain ⟨p1, p2, p3, p4, p5, p6, p7, p8⟩ := q4
  obtain ⟨bp, bs⟩ := blk_pass p4 p5 p6 p7
  have hrest : ∀ o, overC (keptL t) i = some o → ∃ e, restC (keptL t) i = some e ∧ e.lo ≤ e.hi ∧ e.hi ≤ (keptL t).length ∧ sizeC (keptL t) e.lo e.hi = (exprU t (r.opening t 40)).2.length ∧ namesC (keptL t) e.lo e.hi = nmBits (exprU t (r.opening t 40)).2 ∧ e.name = -1 ∧ e.label = -1 := by
   intro o ho
   refine ⟨⟨-1, -1, i + 1, i2 + 1 - 1⟩, ?_, by simp only; omega, by have := qe.hj; simp only; omega, ?_, ?_, rfl, rfl⟩
   ·unfold restC
    rw [ho, hc]
    simp [hsh1]
   ·simp only [Nat.add_sub_cancel]; exact qe.size
   ·simp only [Nat.add_sub_cancel]; unfold namesC; rw [qe.names]; simp
  have hval : ∀ o, overC (keptL t) i = some o → ∃ e, restC (keptL t) i = some e ∧ ∃ s, EvH (keptL t) e.lo e.hi s (exprU t (r.opening t 40)).2 := by
   intro o ho
   refine ⟨⟨-1, -1, i + 1, i2 + 1 - 1⟩, ?_, by simpa using qv⟩
   unfold restC
   rw [ho, hc]
   simp [hsh1]
  cases s6 : B1.1.seesOne t 123 123
  ·rw [if_neg (by decide)]
   have hne := sees_false h4 hb4 s6
   refine ⟨i4, g4, h4, GoC.refl _ _ _, fun e => absurd (hb4.symm.trans e) (by decide), fun _ => ?_⟩
   have hover : overC (keptL t) i = some i4 := by
    rw [over_at hi, (List.getElem?_eq_some_iff.mp hc).2, if_pos rfl, hsh1, bs, if_neg hne]
   refine ⟨p1, p2, .inr ⟨by rw [p3]; rfl, hne⟩, by omega, hps1.trans bp, ?_⟩
   refine ⟨hover, ?_, ?_, ⟨40, hc, by simp⟩, ?_, fun e => (by simp at e), fun e => (by simp at e), by simp, qe.ok, by simp, by simp, fun _ => hval _ hover⟩
   ·obtain ⟨e, a1, a2, a3, a4, a5, a6, a7⟩ := hrest _ hover
    exact ⟨e, a1, a2, a3, a4, a5, by simp [a6], by simp [a7]⟩
   ·refine ⟨⟨i2 + 1 + 1, i4 - 1, i4, i4⟩, ?_, p8, cutT_nil _ _ _ _⟩
    rw [blocks_at hover hi, (List.getElem?_eq_some_iff.mp hc).2, if_pos rfl, hsh1, bs, if_pos rfl]
   ·rw [at_place hi, h.pos]
  ·rw [if_pos rfl]
   have hc123 := (sees_one h4 hb4 123).mp s6
   have hdep : B1.1.depth = g4.op.length := by rw [stb.depth, ap.depth, hd, p1]
   refine (hB B1.1 i4 g4 { g4 with op := 50 :: g4.op, st := 0 } 50 h4 hb4 hdep (stb.fitB fp) (by rw [stb.depth, ap.depth]; exact hn) (by rw [p1]; exact h8) (.inr (.inl rfl)) rfl rfl p2 (fun _ => next1_open (by rw [p3]; rfl) (by rw [p1]; exact h8)) (fun e => absurd hc123 e)).bind (fun e => ⟨rfl, e⟩) (fun i5 g5 h5 hb5 q5 => ⟨i5, g5, h5, GoC.refl _ _ _, fun e => (by rw [hb5] at e; cases e), fun _ => ?_⟩)
   obtain ⟨r1, r2, r3, r4, r5, r6, r7, r8⟩ := q5
   obtain ⟨bp2, bs2⟩ := blk_pass r4 r5 r6 r7
   have hover : overC (keptL t) i = some i5 := by
    rw [over_at hi, (List.getElem?_eq_some_iff.mp hc).2, if_pos rfl, hsh1, bs, if_pos hc123, bs2]
   refine ⟨r1.trans p1, r2, .inl (by rw [r3]; rfl), by omega, (hps1.trans bp).trans bp2, ?_⟩
   refine ⟨hover, ?_, ?_, ⟨40, hc, by simp⟩, ?_, fun e => (by simp at e), fun e => (by simp at e), by simp, qe.ok, by simp, by simp, fun _ => hval _ hover⟩
   ·obtain ⟨e, a1, a2, a3, a4, a5, a6, a7⟩ := hrest _ hover
    exact ⟨e, a1, a2, a3, a4, a5, by simp [a6], by simp [a7]⟩
   ·refine ⟨⟨i2 + 1 + 1, i4 - 1, i4 + 1, i5 - 1⟩, ?_, p8, r8⟩
    rw [blocks_at hover hi, (List.getElem?_eq_some_iff.mp hc).2, if_pos rfl, hsh1, bs, if_neg (by omega)]
   ·rw [at_place hi, h.pos]
 ·have hrb : r.room.bad = true := by unfold Rd.room; rw [if_pos (by omega)]
  have e0 : (r.opening t 40).pos = r.pos ∧ (r.opening t 40).bad = true := by
   unfold Rd.opening
   rw [takeOne_bad hrb]
   exact ⟨room_pos r, hrb⟩
  have e1 := exprU_frz (t := t) e0.2
  have e2 := closing_frz (t := t) 41 e1.2
  have e3 := hfz _ e2.2
  refine ⟨i, f, ⟨e3.1.trans (e2.1.trans (e1.1.trans (e0.1.trans h.pos))), h.le⟩, GoC.refl _ _ _, fun _ => ?_, fun e => ?_⟩
  ·unfold StuckC
   rw [hc]
   simp only
   rw [hR.body hc]
   simp [isNm, h8]
  ·exact absurd (e3.2.symm.trans e) (by decide)
theorem rule_res {t : List UInt8} {n : Nat} (hB : BlkSpec t n) : RuleSpec t n := by
 intro r i f h hb hd hf hn hR
 cases s1 : r.seesOne t 97 122
 case true => exact give_res h hb hd hf hR s1
 cases s2 : r.seesOne t 94 94
 case true => exact open_res h hb hd hf hR s1 s2
 cases s3 : r.seesOne t 62 62
 case true => exact tell_res h hb hd hf hR s1 s2 s3
 cases s4 : r.seesOne t 40 40
 case true => exact cond_res hB h hb hd hf hn hR s1 s2 s3 s4
 cases s5 : r.seesOne t 42 42
 case true => exact loop_res hB h hb hd hf hn hR s1 s2 s3 s4 s5
 exact none_res h hb hR s1 s2 s3 s4 s5
theorem blk_spec (t : List UInt8) : ∀ n, BlkSpec t n
 | 0 => blk_zero t
 | n + 1 => blk_succ (rule_res (blk_spec t n))
theorem rule_spec (t : List UInt8) (n : Nat) : RuleSpec t n := rule_res (blk_spec t n)
end Go.Proofs.YtdgmoiflahoihaaGreatDoor
namespace Go.Proofs.YtdgmoiflahoihaaGreatDoor
set_option linter.unusedSimpArgs false
set_option linter.unusedVariables false
structure HeadOne (C : List UInt8) (A : List Int) (i o : Nat) (h : Hd) : Prop where
 over : overC C i = some o
 byte : ∃ c, C[i]? = some c ∧ (c = 63 ∨ c = 33) ∧ (c = 63 ↔ h.field = true)
 name : ∃ c, C[i + 1]? = some c ∧ h.name = (c.toNat : Int) - 97
 label : ∃ j, labelC C (i + 3) = some (h.label, j)
 place : A[i + 1]? = some (h.place : Int)
 ok : 0 ≤ h.name ∧ h.name < 26 ∧ h.label < 16
def CutHd (C : List UInt8) (A : List Int) : Nat → Nat → List Hd → Prop
 | lo, hi, [] => lo = hi
 | lo, hi, h :: r => lo < hi ∧ ∃ o, HeadOne C A lo o h ∧ CutHd C A o hi r
theorem rule_head {f : Fm} (hb : f.body = false) {c : UInt8} (hc : c = 63 ∨ c = 33) : f.rule (c.toNat : Int) = ({ f with st := 5 }, true) := by
 rcases hc with rfl | rfl <;> simp [Fm.rule, Fm.to, hb]
theorem fixed5 {f : Fm} (h : f.st = 5) {c : UInt8} (hc : nmB c = true) : f.fixed (c.toNat : Int) = ({ f with st := 6 }, true) := by
 unfold Fm.fixed; rw [isNm_u]; simp [Fm.to, h, hc]
theorem fixed5_no {f : Fm} (h : f.st = 5) {c : UInt8} (hc : nmB c = false) : (f.fixed (c.toNat : Int)).2 = false := by
 unfold Fm.fixed; rw [isNm_u]; simp [Fm.to, h, hc]
theorem fixed6 {f : Fm} (h : f.st = 6) : f.fixed ((58 : UInt8).toNat : Int) = ({ f with purpose := 0, st := 7 }, true) := by simp [Fm.fixed, Fm.to, h]
theorem fixed6_no {f : Fm} (h : f.st = 6) {c : UInt8} (hc : c ≠ 58) : (f.fixed (c.toNat : Int)).2 = false := by
 have k := u8_nat hc
 simp at k
 have k2 : ¬ (c.toNat : Int) = 58 := by omega
 simp [Fm.fixed, Fm.to, h, k2]
theorem head_res {t : List UInt8} {r : Rd} {i : Nat} {f : Fm} (h : AtI t r i) (hb : r.bad = false) (hst : f.st = 0) (hbd : f.body = false) (hs : (r.seesOne t 63 63 || r.seesOne t 33 33) = true) :
  Rz t (headU t r).1 i f fun i' g => g.st = 0 ∧ g.op = f.op ∧ g.body = false ∧ i < i' ∧ HeadOne (keptL t) (atL t 0) i i' (headU t r).2 := by
 have hc0 : ∃ c, (keptL t)[i]? = some c ∧ (c = 63 ∨ c = 33) ∧ (c = 63 ↔ r.seesOne t 63 63 = true) ∧ headO t r = (r.takeOne t c c).1 := by
  cases s1 : r.seesOne t 63 63
  ·rw [s1] at hs
   simp at hs
   exact ⟨33, (sees_one h hb 33).mp hs, .inr rfl, by simp, by unfold headO; rw [if_neg (by rw [s1]; decide)]⟩
  ·exact ⟨63, (sees_one h hb 63).mp s1, .inl rfl, by simp, by unfold headO; rw [if_pos s1]⟩
 obtain ⟨c0, hc, hc2, hc3, ho⟩ := hc0
 have hi := (List.getElem?_eq_some_iff.mp hc).1
 have hd0 : dl c0 = 0 ∧ c0 ≠ 59 ∧ c0 ≠ 40 ∧ c0 ≠ 42 := by rcases hc2 with rfl | rfl <;> decide
 unfold headU
 rw [ho]
 simp only
 refine (take_res h hb c0 { f with st := 5 } (fun _ => ?_) (fun hn => absurd hc hn)).bind (fun e => ?_) (fun i1 g1 h1 hb1 q1 => ?_)
 ·rw [next0 hst]; exact rule_head hbd hc2
 ·have e1 := takeOne_frz (t := t) 97 122 e
  have e2 := takeOne_frz (t := t) 58 58 e1.2
  have e3 := label_frz (t := t) e2.2
  have e4 := takeOne_frz (t := t) 59 59 e3.2
  exact ⟨e4.1.trans (e3.1.trans (e2.1.trans e1.1)), e4.2⟩
 obtain ⟨rfl, rfl, _⟩ := q1
 refine (name_res h1 hb1 { f with st := 6 } (fun c hc1 hn => ?_) (fun hn => ?_)).bind (fun e => ?_) (fun i2 g2 h2 hb2 q2 => ?_)
 ·rw [next_fixed (.inr (.inr (.inr (.inl rfl))))]; exact fixed5 rfl hn
 ·exact stuck_fixed (.inr (.inr (.inr (.inl rfl)))) (fun d hdd => fixed5_no rfl (hn d hdd))
 ·have e2 := takeOne_frz (t := t) 58 58 e
  have e3 := label_frz (t := t) e2.2
  have e4 := takeOne_frz (t := t) 59 59 e3.2
  exact ⟨e4.1.trans (e3.1.trans e2.1), e4.2⟩
 obtain ⟨rfl, rfl, c, hc1, hnc, hv⟩ := q2
 have hnd := nm_dl hnc
 have hi1 := (List.getElem?_eq_some_iff.mp hc1).1
 refine (take_res h2 hb2 58 { f with purpose := 0, st := 7 } (fun hc2 => ?_) (fun hc2 => ?_)).bind (fun e => ?_) (fun i3 g3 h3 hb3 q3 => ?_)
 ·rw [next_fixed (.inr (.inr (.inr (.inr (.inl rfl)))))]; exact fixed6 rfl
 ·exact stuck_fixed (.inr (.inr (.inr (.inr (.inl rfl))))) (fun d hdd => fixed6_no rfl (fun e => hc2 (by rw [hdd, e])))
 ·have e3 := label_frz (t := t) e
  have e4 := takeOne_frz (t := t) 59 59 e3.2
  exact ⟨e4.1.trans e3.1, e4.2⟩
 obtain ⟨rfl, rfl, hc58⟩ := q3
 refine (label_res h3 hb3 rfl).bind (fun e => takeOne_frz 59 59 e) (fun i4 g4 h4 hb4 q4 => ?_)
 obtain ⟨ql, qlt, q16, qp, qs, qd, qc⟩ := q4
 refine (take_res h4 hb4 59 { g4 with st := 0 } (fun hc3 => ?_) (fun hc3 => ?_)).bind (fun e => ⟨rfl, e⟩) (fun i5 g5 h5 hb5 q5 => ⟨i5, g5, h5, GoC.refl _ _ _, fun e => absurd (hb5.symm.trans e) (by decide), fun _ => ?_⟩)
 ·rw [ql.nx 59 hc3]; exact labeled_head ql.purpose
 ·unfold StuckC
  cases hcc : (keptL t)[i4]? with
  | none => exact ql.nd
  | some d => simp only; rw [ql.nx d hcc]; exact labeled_head_no ql.purpose (fun e => hc3 (by rw [hcc, e]))
 obtain ⟨rfl, rfl, hc59⟩ := q5
 have hnb := hnc
 simp [nmB] at hnb
 have hsemi : semiR ((keptL t).drop i) i = semiR ((keptL t).drop i4) i4 := by
  rw [semi_one hc hd0.2.1, semi_one hc1 hnd.2.1, semi_one hc58 (by decide), qs]
 refine ⟨rfl, ql.op, ql.body.trans hbd, by omega, ⟨over_semi hc hd0.2.2.1 hd0.2.2.2 hsemi hc59, ⟨c0, hc, hc2, hc3⟩, ⟨c, hc1, hv⟩, ⟨i4, qc 59 hc59 (by decide)⟩, ?_, ?_⟩⟩
 ·show (atL t 0)[i + 1]? = some (((r.takeOne t c0 c0).1.pos : Nat) : Int)
  rw [at_place hi1, h1.pos]
 ·show 0 ≤ ((r.takeOne t c0 c0).1.takeOne t 97 122).2 ∧ ((r.takeOne t c0 c0).1.takeOne t 97 122).2 < 26 ∧ _
  rw [hv]
  exact ⟨by omega, by omega, q16⟩
theorem heads_res {t : List UInt8} : ∀ (k : Nat) (r : Rd) (i : Nat) (f : Fm), AtI t r i → r.bad = false → f.st = 0 → f.body = false → f.op = [] → (keptL t).length - i < k →
  Rz t (headsL t k r).1 i f fun i' g => g.st = 0 ∧ g.op = [] ∧ g.body = false ∧ i ≤ i' ∧ (keptL t)[i']? ≠ some 63 ∧ (keptL t)[i']? ≠ some 33 ∧ CutHd (keptL t) (atL t 0) i i' (headsL t k r).2
 | 0, r, i, f, h, hb, h1, h2, h3, hk => by omega
 | k + 1, r, i, f, h, hb, h1, h2, h3, hk => by
  cases hs : (r.seesOne t 63 63 || r.seesOne t 33 33)
  ·rw [headsL_no k hs]
   obtain ⟨s1, s2⟩ := Bool.or_eq_false_iff.mp hs
   exact ⟨i, f, h, GoC.refl _ _ _, fun e => absurd (hb.symm.trans e) (by decide), fun _ => ⟨h1, h3, h2, Nat.le_refl _, sees_false h hb s1, sees_false h hb s2, rfl⟩⟩
  ·rw [headsL_yes k hs]
   refine (head_res h hb h1 h2 hs).bind (fun e => ?_) (fun i1 g1 a1 ab1 q1 => ?_)
   ·cases k with
    | zero => exact ⟨rfl, e⟩
    | succ k => rw [headsL_no k (by rw [bad_sees e, bad_sees e]; rfl)]; exact ⟨rfl, e⟩
   obtain ⟨p1, p2, p3, p4, p5⟩ := q1
   obtain ⟨i2, g2, c1, c2, c3, c4⟩ := heads_res k (headU t r).1 i1 g1 a1 ab1 p1 p3 (p2.trans h3) (by have := a1.le; omega)
   refine ⟨i2, g2, c1, c2, c3, fun e => ?_⟩
   obtain ⟨e1, e2, e3, e4, e5, e6, e7⟩ := c4 e
   exact ⟨e1, e2, e3, by omega, e5, e6, ⟨by omega, i1, p5, e7⟩⟩
theorem cutHd_begin {C : List UInt8} {A : List Int} : ∀ (l : List Hd) (lo hi f : Nat), CutHd C A lo hi l → C.length - lo < f → lo ≤ C.length → (C[hi]? ≠ some 63 ∧ C[hi]? ≠ some 33) → beginF C f lo = some hi
 | [], lo, hi, 0, h, hf, _, _ => by omega
 | [], lo, hi, f + 1, h, hf, _, hn => by
  have h' : lo = hi := h
  subst h'
  unfold beginF
  cases hc : C[lo]? with
  | none => rfl
  | some c =>
   rw [hc] at hn
   simp at hn
   simp [hn.1, hn.2]
 | a :: r, lo, hi, 0, h, hf, _, _ => by omega
 | a :: r, lo, hi, f + 1, h, hf, hl, hn => by
  obtain ⟨hlt, o, h1, h2⟩ := h
  obtain ⟨c, hc, hc2, _⟩ := h1.byte
  have hog := over_gt h1.over
  have hol := over_le h1.over
  unfold beginF
  rw [hc]
  simp only
  rw [if_pos hc2, h1.over]
  exact cutHd_begin r o hi f h2 (by omega) hol hn
theorem parse_spec (t : List UInt8) : ((parseR t).1.bad = true → placeOf t = ((parseR t).1.pos : Int)) ∧
  ((parseR t).1.bad = false → placeOf t = -1 ∧ ∃ B, beginC (keptL t) = some B ∧ CutHd (keptL t) (atL t 0) 0 B (parseH t).2 ∧ CutT (keptL t) (atL t 0) 9 B (keptL t).length (parseR t).2) := by
 have hk := kept_le t
 obtain ⟨hp1, hd1⟩ := parseH_facts t
 have hH := heads_res (t.length + 1) (Rd.skip t Rd.first) 0 Fm.start (first_at t) rfl rfl rfl rfl (by omega)
 have hall : Rz t (parseR t).1 0 Fm.start fun i' g => i' = (keptL t).length ∧ g.done = true ∧ ∃ B, beginC (keptL t) = some B ∧ CutHd (keptL t) (atL t 0) 0 B (parseH t).2 ∧ CutT (keptL t) (atL t 0) 9 B (keptL t).length (parseR t).2 := by
  refine hH.bind (fun e => ?_) (fun i1 g1 h1 hb1 q1 => ?_)
  ·show (rulesL _ _ _ (parseH t).1).1.pos = _ ∧ _
   unfold parseR
   rw [rulesL_bad (r := (parseH t).1) e]
   exact ⟨rfl, e⟩
  obtain ⟨e1, e2, e3, e4, e5, e6, e7⟩ := q1
  have hbeg : beginC (keptL t) = some i1 := cutHd_begin _ 0 i1 _ e7 (by omega) (Nat.zero_le _) ⟨e5, e6⟩
  refine (rulesL_spec (rule_spec t 8) (fun r => decide (t.length ≤ r.pos)) g1 0 (by rw [e2]; rfl) (by omega) (by omega) (by unfold Fm.paren Fm.top; rw [e2]; rfl) (fun r' j h' hb' hs => ⟨.inr e2, fun en => ?_⟩) (t.length + 1) (parseH t).1 i1 g1 h1 hb1 hd1 ⟨hp1, by omega, by omega⟩ rfl (.inr ⟨e5, e6⟩) (.inl e1) (by omega)).bind (fun e => ⟨rfl, e⟩) (fun i2 g2 h2 hb2 q2 => ⟨i2, g2, h2, GoC.refl _ _ _, fun e => absurd (hb2.symm.trans e) (by decide), fun _ => ?_⟩)
  ·have hj := List.getElem?_eq_none_iff.mp en
   have := h'.pos
   rw [posI_end hj] at this
   simp at hs
   omega
  obtain ⟨f1, f2, f3, f4, f5, f6, f7⟩ := q2
  have hend : i2 = (keptL t).length := by
   have hle := h2.le
   apply Decidable.byContradiction
   intro hne
   have hlt : i2 < (keptL t).length := by omega
   have := (posL_facts t 0 i2 hlt).1
   have hpos := h2.pos
   unfold posI at hpos
   have f1' : t.length ≤ (rulesL (fun r => ruleF t 8 r) (fun r => decide (t.length ≤ r.pos)) (t.length + 1) (parseH t).1).1.pos := by simpa using f1
   rw [hpos] at f1'
   omega
  subst hend
  refine ⟨rfl, ?_, i1, hbeg, e7, f7⟩
  unfold Fm.done
  rw [f2, e2]
  rcases f4 with f4 | f4
  ·simp [f4]
  ·simp [f4.1]
 obtain ⟨i', g, a1, a2, a3, a4⟩ := hall
 refine ⟨fun e => ?_, fun e => ?_⟩
 ·rw [stuck_place a2 a1.le (a3 e), a1.pos]
 ·obtain ⟨b1, b2, b3⟩ := a4 e
  subst b1
  exact ⟨done_place a2 b2, b3⟩
end Go.Proofs.YtdgmoiflahoihaaGreatDoor
namespace Go.Proofs.YtdgmoiflahoihaaGreatDoor
set_option linter.unusedSimpArgs false
set_option linter.unusedVariables false
theorem sizeL_le : ∀ (l : List UInt8) (d : Bool), sizeL d l ≤ l.length
 | [], d => Nat.le_refl _
 | c :: r, d => by
  have := sizeL_le r (dgB c)
  unfold sizeL
  simp only [List.length_cons]
  split <;> omega
theorem seg_len (C : List UInt8) (lo hi : Nat) : (seg C lo hi).length ≤ hi - lo := by unfold seg; simp; omega
theorem sizeC_le (C : List UInt8) (lo hi : Nat) : sizeC C lo hi ≤ hi - lo := Nat.le_trans (sizeL_le _ _) (seg_len _ _ _)
theorem span_ok {C : List UInt8} {i o : Nat} {e : Rest} {t : Two} (ho : overC C i = some o) (hr : restC C i = some e) (hb : blocksC C i = some t) : 1 + (e.hi - e.lo) + (t.q - t.p) + (t.s - t.r) ≤ o - i := by
 have hi := over_lt ho
 have hg := over_gt ho
 have s1 := shutC_le C
 have s2 := fun j h => shutC_ge (C := C) (i := j) h
 have a1 := s1 i
 have a2 := s1 (shutC C i)
 have a3 := s1 (i + 2)
 have b2 := s2 (shutC C i) a1
 rw [blocks_at ho hi] at hb
 have ho2 := ho
 rw [over_at hi] at ho2
 have hci : C[i]? = some C[i] := List.getElem?_eq_getElem hi
 unfold restC at hr
 rw [ho, hci] at hr
 simp only at hr
 by_cases e40 : C[i] = 40
 ·have hgt := shutC_gt hi e40
  have b3 := s2 (shutC C (shutC C i)) a2
  rw [if_pos e40] at hb ho2
  rw [e40] at hr
  simp at hr
  subst hr
  have hob : shutC C (shutC C i) ≤ o := by split at ho2 <;> (cases ho2; omega)
  split at hb <;> (cases hb; simp only; omega)
 ·rw [if_neg e40] at hb ho2
  by_cases e42 : C[i] = 42
  ·rw [if_pos e42] at hb ho2
   rw [e42] at hr
   simp at hr
   subst hr
   cases ho2
   rw [if_pos rfl] at hb
   cases hb
   simp only
   omega
  ·rw [if_neg e42] at hb
   cases hb
   simp only
   by_cases e62 : C[i] = 62
   ·rw [if_pos e62] at hr
    cases hl : labelC C (i + 1) with
    | none => rw [hl] at hr; cases hr
    | some x =>
     rw [hl] at hr
     cases hr
     have := labelC_le (l := x.1) (j := x.2) hl
     simp only
     omega
   ·rw [if_neg e62] at hr
    by_cases e94 : C[i] = 94
    ·rw [if_pos e94] at hr
     cases hl : labelC C (i + 3) with
     | none => rw [hl] at hr; cases hr
     | some x =>
      cases hd : C[i + 1]? with
      | none => rw [hl, hd] at hr; cases hr
      | some d =>
       rw [hl, hd] at hr
       cases hr
       have := labelC_le (l := x.1) (j := x.2) hl
       simp only
       omega
    ·rw [if_neg e94, if_neg e40, if_neg e42] at hr
     cases hr
     simp only
     omega
theorem cutL_le {α : Type} {one : Nat → Nat → α → Prop} : ∀ (l : List α) (lo hi : Nat), (∀ i o q, one i o q → i < o) → CutL one lo hi l → lo ≤ hi ∧ l.length ≤ hi - lo
 | [], lo, hi, _, h => by have : lo = hi := h; subst this; simp
 | q :: r, lo, hi, ho, h => by
  obtain ⟨hlt, o, h1, h2⟩ := h
  have := ho _ _ _ h1
  have := cutL_le r o hi ho h2
  simp only [List.length_cons]
  omega
theorem cutT_same {C : List UInt8} {A : List Int} {n lo : Nat} {l : List (RT n)} (h : CutT C A n lo lo l) : workS n l = 0 := by
 cases n with
 | zero => rfl
 | succ n =>
  cases l with
  | nil => rfl
  | cons q r => exact absurd h.1 (Nat.lt_irrefl _)
theorem at_lt {t : List UInt8} {i p : Nat} (h : (atL t 0)[i]? = some (p : Int)) : p < t.length := by
 have hl : ∀ (l : List UInt8) (k : Nat), (atL l k).length = (keptL l).length := by
  intro l
  induction l with
  | nil => intro k; rfl
  | cons c r ih => intro k; unfold atL keptL; split <;> simp [ih]
 have hi : i < (keptL t).length := by
  have := (List.getElem?_eq_some_iff.mp h).1
  rwa [hl] at this
 rw [at_place hi] at h
 have h'' : ((posI t i : Nat) : Int) = (p : Int) := by simpa using h
 have h' : posI t i = p := by omega
 have := (posL_facts t 0 i hi).1
 unfold posI at h'
 omega
theorem cutOne_ok {α : Type} {t : List UInt8} {rows : Nat → Nat → List α → Prop} {i o : Nat} {q : Core × List α × List α} (ht : t.length ≤ 400) (h : CutOne (keptL t) (atL t 0) rows i o q) : CoreOk q.1 := by
 obtain ⟨e, _, h1, h2, h3, _⟩ := h.rest
 have hk := kept_le t
 have := sizeC_le (keptL t) e.lo e.hi
 have hp := at_lt h.place
 refine ⟨h.name, h.label, h.parts, by omega, by omega, h.count, fun hk4 => ?_, h.kind⟩
 obtain ⟨d, _, d1, d2, d3⟩ := h.times hk4
 omega
theorem cutT_ok {t : List UInt8} (ht : t.length ≤ 400) : ∀ (n lo hi : Nat) (l : List (RT n)), hi ≤ 400 → CutT (keptL t) (atL t 0) n lo hi l → TreeOk n l
 | 0, _, _, _, _, _ => trivial
 | n + 1, lo, hi, l, hh, h => by
  have hle := cutL_le _ _ _ (fun i o q hq => over_gt hq.over) h
  refine ⟨by omega, ?_⟩
  have hk := kept_le t
  have key : ∀ (l : List (Core × List (RT n) × List (RT n))) (lo hi : Nat), CutL (fun i o q => CutOne (keptL t) (atL t 0) (CutT (keptL t) (atL t 0) n) i o q) lo hi l → ∀ q ∈ l, CoreOk q.1 ∧ TreeOk n q.2.1 ∧ TreeOk n q.2.2 := by
   intro l
   induction l with
   | nil => intro lo hi _ q hq; cases hq
   | cons a r ih =>
    intro lo hi h q hq
    obtain ⟨hlt, o, h1, h2⟩ := h
    rcases List.mem_cons.mp hq with rfl | hq
    ·obtain ⟨tw, hb, hb1, hb2⟩ := h1.blocks
     have hol := over_le h1.over
     obtain ⟨e, he, _⟩ := h1.rest
     have hsp := blocks_le hb (by omega)
     have hx : tw.q ≤ (keptL t).length ∧ tw.s ≤ (keptL t).length := by
      have hi := over_lt h1.over
      have s1 := shutC_le (keptL t)
      have a2 := s1 (shutC (keptL t) lo)
      have a3 := s1 (lo + 2)
      rw [blocks_at h1.over hi] at hb
      repeat' split at hb
      all_goals (cases hb; simp only; omega)
     exact ⟨cutOne_ok ht h1, cutT_ok ht n _ _ _ (by omega) hb1, cutT_ok ht n _ _ _ (by omega) hb2⟩
    ·exact ih o hi h2 q hq
  exact key l lo hi h
theorem work_bound {C : List UInt8} {A : List Int} : ∀ (n lo hi : Nat) (l : List (RT n)), CutT C A n lo hi l → workS n l ≤ 10 ^ n * (hi - lo)
 | 0, lo, hi, l, h => Nat.zero_le _
 | n + 1, lo, hi, l, h => by
  have key : ∀ (l : List (Core × List (RT n) × List (RT n))) (lo hi : Nat), CutL (fun i o q => CutOne C A (CutT C A n) i o q) lo hi l → workL (workS n) l ≤ 10 ^ (n + 1) * (hi - lo) := by
   intro l
   induction l with
   | nil => intro lo hi _; exact Nat.zero_le _
   | cons q r ih =>
    intro lo hi h
    obtain ⟨hlt, o, h1, h2⟩ := h
    have i2 := ih o hi h2
    obtain ⟨e, he, he1, he2, he3, _⟩ := h1.rest
    obtain ⟨tw, hb, hb1, hb2⟩ := h1.blocks
    have hsp := span_ok h1.over he hb
    have w1 := work_bound n _ _ _ hb1
    have w2 := work_bound n _ _ _ hb2
    have hsz := sizeC_le C e.lo e.hi
    have hoh := (cutL_le r o hi (fun i o q hq => over_gt hq.over) h2).1
    have hp : 0 < 10 ^ n := Nat.pow_pos (by omega)
    rw [workL_cons]
    have hq : workT (workS n) q ≤ 10 ^ (n + 1) * (o - lo) := by
     have hpe : 10 ^ (n + 1) = 10 * 10 ^ n := by rw [Nat.pow_succ, Nat.mul_comm]
     rw [hpe]
     have hm : ∀ x y : Nat, x ≤ y → 10 * 10 ^ n * x ≤ 10 * 10 ^ n * y := fun x y hxy => Nat.mul_le_mul_left _ hxy
     have hs1 := hm (1 + (e.hi - e.lo) + (tw.q - tw.p) + (tw.s - tw.r)) (o - lo) hsp
     refine Nat.le_trans ?_ hs1
     generalize 10 ^ n = K at *
     generalize hA : tw.q - tw.p = a at *
     generalize hB : tw.s - tw.r = b at *
     have m1 : 10 * K * (1 + (e.hi - e.lo) + a + b) = 10 * K + 10 * K * (e.hi - e.lo) + 10 * (K * a) + 10 * (K * b) := by
      rw [Nat.mul_add, Nat.mul_add, Nat.mul_add, Nat.mul_one, Nat.mul_assoc 10 K a, Nat.mul_assoc 10 K b]
     rw [m1]
     have hke : e.hi - e.lo ≤ 10 * K * (e.hi - e.lo) := Nat.le_mul_of_pos_left _ (by omega)
     unfold workT
     split
     ·rename_i hk4
      have hc := h1.count
      have hct : q.1.count.toNat ≤ 9 := by omega
      have : q.1.count.toNat * (1 + workS n q.2.1) ≤ 9 * (1 + workS n q.2.1) := Nat.mul_le_mul_right _ hct
      omega
     ·omega
    have : 10 ^ (n + 1) * (hi - lo) = 10 ^ (n + 1) * (o - lo) + 10 ^ (n + 1) * (hi - o) := by
     rw [← Nat.mul_add]; congr 1; have := over_gt h1.over; omega
    omega
  exact key l lo hi h
theorem work_lt40 {C : List UInt8} {A : List Int} {n lo hi : Nat} {l : List (RT n)} (h : CutT C A n lo hi l) (hn : n ≤ 9) (hh : hi - lo ≤ 400) : workS n l < 1099511627776 := by
 have h1 := work_bound n lo hi l h
 have h2 : 10 ^ n ≤ 10 ^ 9 := Nat.pow_le_pow_right (by omega) hn
 have h3 : 10 ^ n * (hi - lo) ≤ 10 ^ 9 * 400 := Nat.mul_le_mul h2 hh
 omega
theorem work_eq {C : List UInt8} {A : List Int} (hC : C.length ≤ 400) : ∀ (n : Nat), n ≤ 9 → ∀ (l : List (RT n)) (lo hi f : Nat), CutT C A n lo hi l → hi ≤ C.length → hi - lo < f → workF C f lo hi = some (workS n l)
 | 0, _, l, lo, hi, 0, h, _, hf => by omega
 | 0, _, l, lo, hi, f + 1, h, _, hf => by
  have h' : lo = hi := h
  subst h'
  unfold workF
  rw [if_neg (Nat.lt_irrefl _)]
  rfl
 | n + 1, hn, l, lo, hi, f, h, hh, hf => by
  have key : ∀ (l : List (Core × List (RT n) × List (RT n))) (lo f : Nat), CutL (fun i o q => CutOne C A (CutT C A n) i o q) lo hi l → hi - lo < f → workF C f lo hi = some (workL (workS n) l) := by
   intro l
   induction l with
   | nil =>
    intro lo f h hf
    have h' : lo = hi := h
    subst h'
    cases f with
    | zero => omega
    | succ f => unfold workF; rw [if_neg (Nat.lt_irrefl _)]; rfl
   | cons q r ih =>
    intro lo f h hf
    have hbd : workL (workS n) (q :: r) < 1099511627776 := work_lt40 (C := C) (A := A) (n := n + 1) (lo := lo) (hi := hi) (l := q :: r) h hn (by omega)
    obtain ⟨hlt, o, h1, h2⟩ := h
    obtain ⟨e, he, he1, he2, he3, _⟩ := h1.rest
    obtain ⟨tw, hb, hb1, hb2⟩ := h1.blocks
    obtain ⟨c, hc, hc42, _⟩ := h1.byte
    have hsp := span_ok h1.over he hb
    have hog := over_gt h1.over
    have hi := over_lt h1.over
    have hx : tw.q ≤ C.length ∧ tw.s ≤ C.length := by
     have s1 := shutC_le C
     have a2 := s1 (shutC C lo)
     have a3 := s1 (lo + 2)
     have hol := over_le h1.over
     have hbb := hb
     rw [blocks_at h1.over hi] at hbb
     repeat' split at hbb
     all_goals (cases hbb; simp only; omega)
    have hoh := (cutL_le r o _ (fun i o q hq => over_gt hq.over) h2).1
    cases f with
    | zero => omega
    | succ f =>
    have w1 := work_eq hC n (by omega) q.2.1 tw.p tw.q f hb1 hx.1 (by omega)
    have w2 := work_eq hC n (by omega) q.2.2 tw.r tw.s f hb2 hx.2 (by omega)
    have w3 := ih o f h2 (by omega)
    rw [workL_cons] at hbd ⊢
    unfold workF
    rw [if_pos hlt, he, hb, h1.over, hc]
    simp only
    rw [w1, w2, w3]
    simp only
    rw [if_pos ⟨he1, he2⟩, he3]
    by_cases hk : c = 42
    ·rw [if_pos hk]
     have hk4 := hc42.mp hk
     obtain ⟨d, hd, d1, d2, d3⟩ := h1.times hk4
     rw [hd]
     simp only
     have hparts : q.1.parts.length = 0 := by
      rw [← he3]
      have hr := he
      unfold restC at hr
      rw [h1.over, hc, hk] at hr
      simp at hr
      subst hr
      unfold sizeC
      rw [seg_nil (Nat.le_refl _)]
      rfl
     have hsec : workS n q.2.2 = 0 := by
      have hcc : C[lo] = 42 := by rw [← hk]; exact (List.getElem?_eq_some_iff.mp hc).2
      have hov := h1.over
      rw [over_at hi, if_neg (by rw [hcc]; decide), if_pos hcc] at hov
      cases hov
      rw [blocks_at h1.over hi, if_neg (by rw [hcc]; decide), if_pos hcc, if_pos rfl] at hb
      cases hb
      exact cutT_same hb2
     have hT : workT (workS n) q = 1 + (d.toNat - 48) * (1 + workS n q.2.1) := by
      unfold workT
      rw [if_pos hk4, show q.1.count.toNat = d.toNat - 48 by omega]
     rw [hT] at hbd ⊢
     rw [hparts, hsec]
     rw [if_pos ⟨by omega, by omega⟩]
     congr 1
    ·rw [if_neg hk]
     have hT : workT (workS n) q = 1 + q.1.parts.length + workS n q.2.1 + workS n q.2.2 := by
      unfold workT
      rw [if_neg (fun e => hk (hc42.mpr e))]
     rw [hT] at hbd ⊢
     rw [if_pos (by omega)]
  exact key l lo f h hf
end Go.Proofs.YtdgmoiflahoihaaGreatDoor
namespace Go.Proofs.YtdgmoiflahoihaaGreatDoor
set_option linter.unusedSimpArgs false
set_option linter.unusedVariables false
theorem cutHd_le {C : List UInt8} {A : List Int} : ∀ (l : List Hd) (lo hi : Nat), CutHd C A lo hi l → lo ≤ hi ∧ l.length ≤ hi - lo
 | [], lo, hi, h => by have : lo = hi := h; subst this; simp
 | a :: r, lo, hi, h => by
  obtain ⟨hlt, o, h1, h2⟩ := h
  have := over_gt h1.over
  have := cutHd_le r o hi h2
  simp only [List.length_cons]
  omega
theorem cutHd_app {C : List UInt8} {A : List Int} {h : Hd} {o : Nat} : ∀ (l : List Hd) (lo i : Nat), CutHd C A lo i l → HeadOne C A i o h → CutHd C A lo o (l ++ [h])
 | [], lo, i, hl, ho => by
  have : lo = i := hl
  subst this
  exact ⟨over_gt ho.over, o, ho, rfl⟩
 | a :: r, lo, i, hl, ho => by
  obtain ⟨hlt, o1, h1, h2⟩ := hl
  have := over_gt ho.over
  exact ⟨by omega, o1, h1, cutHd_app r o1 i h2 ho⟩
theorem twiceIn_eq {C : List UInt8} {A : List Int} {i : Nat} {c : UInt8} (hc : C[i + 1]? = some c) : ∀ (l : List Hd) (k f : Nat), CutHd C A k i l → i - k < f → twiceIn C i f k = some (hasN l ((c.toNat : Int) - 97))
 | [], k, 0, h, hf => by omega
 | [], k, f + 1, h, hf => by
  have : k = i := h
  subst this
  unfold twiceIn
  rw [if_neg (Nat.lt_irrefl _)]
  rfl
 | a :: r, k, 0, h, hf => by omega
 | a :: r, k, f + 1, h, hf => by
  obtain ⟨hlt, o, h1, h2⟩ := h
  obtain ⟨d, hd, hn⟩ := h1.name
  have hog := over_gt h1.over
  have hoi := (cutHd_le r o i h2).1
  unfold twiceIn
  rw [if_pos hlt, hd, hc, h1.over]
  simp only
  rw [hasN_cons]
  by_cases hdc : d = c
  ·subst hdc
   rw [if_pos rfl]
   simp [hn]
  ·rw [if_neg hdc, twiceIn_eq hc r o f h2 (by omega)]
   have hne : ¬ a.name = (c.toNat : Int) - 97 := by
    rw [hn]
    intro e
    exact hdc (UInt8.toNat_inj.mp (by omega))
   simp [hne]
theorem twice_eq {C : List UInt8} {A : List Int} {B : Nat} (hB : B ≤ C.length) : ∀ (l : List Hd) (pre : List Hd) (i f : Nat), CutHd C A 0 i pre → CutHd C A i B l → B - i < f → twiceF C A B f i = some (match twiceL pre l with | some p => (p : Int) | none => -1)
 | [], pre, i, 0, hp, h, hf => by omega
 | [], pre, i, f + 1, hp, h, hf => by
  have : i = B := h
  subst this
  unfold twiceF
  rw [if_neg (Nat.lt_irrefl _)]
  rfl
 | a :: r, pre, i, 0, hp, h, hf => by omega
 | a :: r, pre, i, f + 1, hp, h, hf => by
  obtain ⟨hlt, o, h1, h2⟩ := h
  obtain ⟨d, hd, hn⟩ := h1.name
  have hog := over_gt h1.over
  have hoi := (cutHd_le r o B h2).1
  have ht := twiceIn_eq hd pre 0 (C.length + 1) hp (by omega)
  rw [← hn] at ht
  unfold twiceF
  rw [if_pos hlt, ht, h1.over, twiceL_cons]
  cases hh : hasN pre a.name
  ·simp only [Bool.false_eq_true, if_false]
   exact twice_eq hB r (pre ++ [a]) o f (cutHd_app pre 0 i hp h1) h2 (by omega)
  ·simp only [if_true]
   exact h1.place
theorem togR_or (of : List Nat) (a b : Nat) : ∀ (n l m : Nat), togR of (a ||| b) n (l ||| m) = togR of a n l ||| togR of b n m
 | 0, l, m => rfl
 | n + 1, l, m => by
  unfold togR
  have h1 : (a ||| b) &&& 2 ^ (25 - n) = (a &&& 2 ^ (25 - n)) ||| (b &&& 2 ^ (25 - n)) := Nat.and_or_distrib_right ..
  have e : (if (a ||| b) &&& 2 ^ (25 - n) ≠ 0 then l ||| m ||| of.getD (25 - n) 0 else l ||| m) = (if a &&& 2 ^ (25 - n) ≠ 0 then l ||| of.getD (25 - n) 0 else l) ||| (if b &&& 2 ^ (25 - n) ≠ 0 then m ||| of.getD (25 - n) 0 else m) := by
   rw [h1]
   by_cases ha : a &&& 2 ^ (25 - n) = 0
   ·by_cases hb : b &&& 2 ^ (25 - n) = 0
    ·simp [ha, hb]
    ·simp [ha, hb, Nat.or_assoc]
   ·have hab : ¬ ((a &&& 2 ^ (25 - n)) ||| (b &&& 2 ^ (25 - n))) = 0 := by
     intro e
     have := Nat.left_le_or (n := a &&& 2 ^ (25 - n)) (m := b &&& 2 ^ (25 - n))
     omega
    rw [if_pos hab, if_pos ha]
    by_cases hb : b &&& 2 ^ (25 - n) = 0
    ·simp only [hb, ne_eq, not_true_eq_false, if_false]
     rw [Nat.or_assoc, Nat.or_comm m, ← Nat.or_assoc]
    ·simp only [ne_eq, hb, not_false_eq_true, if_true]
     generalize of.getD (25 - n) 0 = x
     apply Nat.eq_of_testBit_eq
     intro j
     simp only [Nat.testBit_or]
     cases l.testBit j <;> cases m.testBit j <;> cases x.testBit j <;> rfl
  rw [e]
  exact togR_or of a b n _ _
theorem togC_or (of : List Nat) (a b : Nat) : togC of (a ||| b) = togC of a ||| togC of b := by
 have := togR_or of a b 26 0 0
 simpa [togC] using this
theorem togR_zero (of : List Nat) : ∀ n l, togR of 0 n l = l
 | 0, l => rfl
 | n + 1, l => by unfold togR; simp [togR_zero of n]
theorem togR_pow (of : List Nat) (k : Nat) (hk : k < 26) : ∀ n l, n ≤ 26 → togR of (2 ^ k) n l = if 26 - n ≤ k then l ||| of.getD k 0 else l
 | 0, l, _ => by rw [if_neg (by omega)]; rfl
 | n + 1, l, hn => by
  unfold togR
  rw [togR_pow of k hk n _ (by omega)]
  by_cases he : 25 - n = k
  ·have hand : (2 ^ k &&& 2 ^ (25 - n)) ≠ 0 := by rw [he, Nat.and_self]; exact Nat.ne_of_gt (Nat.two_pow_pos _)
   rw [if_pos hand, he, if_neg (by omega), if_pos (by omega)]
  ·have hand : ¬ (2 ^ k &&& 2 ^ (25 - n)) ≠ 0 := by
    simp only [ne_eq, Decidable.not_not]
    apply Nat.eq_of_testBit_eq
    intro j
    simp only [Nat.testBit_and, Nat.testBit_two_pow, Nat.zero_testBit]
    by_cases h1 : k = j
    ·subst h1; simp [he]
    ·simp [h1]
   rw [if_neg hand]
   by_cases h1 : 26 - (n + 1) ≤ k
   ·rw [if_pos h1, if_pos (by omega)]
   ·rw [if_neg h1, if_neg (by omega)]
theorem togC_pow (of : List Nat) {k : Nat} (hk : k < 26) : togC of (2 ^ k) = of.getD k 0 := by
 unfold togC
 rw [togR_pow of k hk 26 0 (by omega), if_pos (by omega), Nat.zero_or]
theorem labL_or (of : List Nat) : ∀ (P : List Pt) (a : Nat), labL of P a = a ||| labL of P 0
 | [], a => by simp [labL]
 | p :: r, a => by
  rw [labL_cons, labL_cons, labL_or of r, labL_or of r (if p.op = 2 then 0 ||| of.getD p.num.toNat 0 else 0)]
  split
  ·rw [Nat.zero_or, Nat.or_assoc]
  ·rw [Nat.zero_or]
theorem tog_parts (of : List Nat) : ∀ (P : List Pt), (∀ p ∈ P, PtOk p) → togC of (nmBits P) = labL of P 0
 | [], _ => by unfold togC nmBits; rw [togR_zero]; rfl
 | p :: r, h => by
  have ih := tog_parts of r (fun x hx => h x (by simp [hx]))
  unfold nmBits
  have e9 := labL_or of r (if p.op = 2 then 0 ||| of.getD p.num.toNat 0 else 0)
  rw [togC_or, ih, labL_cons, e9]
  by_cases h2 : p.op = 2
  ·obtain ⟨n0, n1⟩ := h p (by simp) h2
   rw [if_pos h2, if_pos h2, togC_pow of (by omega), Nat.zero_or]
  ·rw [if_neg h2, if_neg h2]
   unfold togC
   rw [togR_zero]
theorem dirty_eq {C : List UInt8} {A : List Int} {of : List Nat} (hof : OfOk of) : ∀ (n : Nat) (l : List (RT n)) (lo hi g f : Nat), CutT C A n lo hi l → hi ≤ C.length → hi - lo < f → dirtyF C A of f lo hi g = some (match cleanF of n (togC of g) l with | some p => (p : Int) | none => -1)
 | 0, l, lo, hi, g, 0, h, _, hf => by omega
 | 0, l, lo, hi, g, f + 1, h, _, hf => by
  have h' : lo = hi := h
  subst h'
  unfold dirtyF
  rw [if_neg (Nat.lt_irrefl _)]
  rfl
 | n + 1, l, lo, hi, g, f, h, hh, hf => by
  have key : ∀ (l : List (Core × List (RT n) × List (RT n))) (lo f : Nat), CutL (fun i o q => CutOne C A (CutT C A n) i o q) lo hi l → hi - lo < f → dirtyF C A of f lo hi g = some (match cleanL (cleanF of n) of (togC of g) l with | some p => (p : Int) | none => -1) := by
   intro l
   induction l with
   | nil =>
    intro lo f h hf
    have h' : lo = hi := h
    subst h'
    cases f with
    | zero => omega
    | succ f => unfold dirtyF; rw [if_neg (Nat.lt_irrefl _)]; rfl
   | cons q r ih =>
    intro lo f h hf
    obtain ⟨hlt, o, h1, h2⟩ := h
    obtain ⟨e, he, he1, he2, he3, he4, he5, he6⟩ := h1.rest
    obtain ⟨tw, hb, hb1, hb2⟩ := h1.blocks
    obtain ⟨c, hc, hc42, hc40, hc62, hc94⟩ := h1.byte
    have hsp := span_ok h1.over he hb
    have hog := over_gt h1.over
    have hi := over_lt h1.over
    have hx : tw.q ≤ C.length ∧ tw.s ≤ C.length := by
     have s1 := shutC_le C
     have a2 := s1 (shutC C lo)
     have a3 := s1 (lo + 2)
     have hol := over_le h1.over
     have hbb := hb
     rw [blocks_at h1.over hi] at hbb
     repeat' split at hbb
     all_goals (cases hbb; simp only; omega)
    have hoh := (cutL_le r o _ (fun i o q hq => over_gt hq.over) h2).1
    cases f with
    | zero => omega
    | succ f =>
    have hE : togC of (namesC C e.lo e.hi) = labL of q.1.parts 0 := by rw [he4]; exact tog_parts of _ h1.parts
    have hG : togC of (g ||| namesC C e.lo e.hi) = togC of g ||| labL of q.1.parts 0 := by rw [togC_or, hE]
    have w1 := dirty_eq hof n q.2.1 tw.p tw.q (g ||| namesC C e.lo e.hi) f hb1 hx.1 (by omega)
    have w2 := dirty_eq hof n q.2.2 tw.r tw.s (g ||| namesC C e.lo e.hi) f hb2 hx.2 (by omega)
    have w3 := ih o f h2 (by omega)
    rw [hG] at w1 w2
    have hclean : cleanC of c e (togC of (namesC C e.lo e.hi)) (togC of g) = some (cleanT of (togC of g) q.1) := by
     rw [hE]
     have hlb := h1.label
     have hkd := h1.kind
     unfold cleanC cleanT
     by_cases k2 : q.1.kind = 2
     ·have hc2 := hc62.mpr k2
      have hl : e.label = (q.1.label : Int) := by rw [he6, if_pos (.inr k2)]
      rw [if_pos hc2, hl, if_pos ⟨by omega, by omega⟩, if_neg (by omega), if_neg (by omega), if_pos k2]
      simp [Nat.or_comm]
     ·rw [if_neg (fun e => k2 (hc62.mp e))]
      by_cases k1 : q.1.kind = 1
      ·have hc2 := hc94.mpr k1
       have hnm := h1.name (.inr k1)
       have hl : e.label = (q.1.label : Int) := by rw [he6, if_pos (.inl k1)]
       have hnn : e.name = q.1.name := by rw [he5, if_pos (.inr k1)]
       rw [if_pos hc2, hl, hnn, if_pos ⟨by omega, by omega, hnm.1, hnm.2⟩, if_neg (by omega), if_pos k1]
       simp
      ·rw [if_neg (fun e => k1 (hc94.mp e))]
       by_cases k34 : q.1.kind = 3 ∨ q.1.kind = 4
       ·rw [if_pos (k34.imp hc40.mpr hc42.mpr), if_neg (by omega), if_neg k1, if_neg k2]
       ·have k0 : q.1.kind = 0 := by omega
        have hnm := h1.name (.inl k0)
        have hnn : e.name = q.1.name := by rw [he5, if_pos (.inl k0)]
        rw [if_neg (fun e => k34 (e.imp hc40.mp hc42.mp)), hnn, if_pos ⟨hnm.1, hnm.2⟩, if_pos k0, Nat.or_comm]
    unfold dirtyF
    rw [if_pos hlt, he, hb, h1.over, hc]
    simp only
    rw [if_pos ⟨he1, he2⟩, hclean]
    cases hcl : cleanT of (togC of g) q.1
    ·simp only
     rw [cleanL_bad hcl]
     exact h1.place
    ·simp only
     rw [w1]
     cases hx1 : cleanF of n (togC of g ||| labL of q.1.parts 0) q.2.1 with
     | some p =>
      rw [cleanL_first hcl hx1]
      simp only
      rw [if_neg (by omega)]
     | none =>
      simp only
      rw [if_pos (by decide), w2]
      cases hx2 : cleanF of n (togC of g ||| labL of q.1.parts 0) q.2.2 with
      | some p =>
       rw [cleanL_second hcl hx1 hx2]
       simp only
       rw [if_neg (by omega)]
      | none =>
       rw [cleanL_next hcl hx1 hx2]
       simp only
       rw [if_pos (by decide)]
       exact w3
  exact key l lo f h hf
end Go.Proofs.YtdgmoiflahoihaaGreatDoor
namespace Go.Proofs.YtdgmoiflahoihaaGreatDoor
set_option linter.unusedSimpArgs false
set_option linter.unusedVariables false
def hdOf : List Hd → Nat → Option Nat
 | [], _ => none
 | h :: r, x => if h.name = (x : Int) then some h.label else hdOf r x
theorem headF_eq {C : List UInt8} {A : List Int} {B x : Nat} : ∀ (l : List Hd) (i f : Nat), CutHd C A i B l → B - i < f → headF C B (x : Int) f i = some (match hdOf l x with | some m => (m : Int) | none => -1)
 | [], i, 0, h, hf => by omega
 | [], i, f + 1, h, hf => by
  have : i = B := h
  subst this
  unfold headF
  rw [if_neg (Nat.lt_irrefl _)]
  rfl
 | a :: r, i, 0, h, hf => by omega
 | a :: r, i, f + 1, h, hf => by
  obtain ⟨hlt, o, h1, h2⟩ := h
  obtain ⟨d, hd, hn⟩ := h1.name
  obtain ⟨j, hl⟩ := h1.label
  have hog := over_gt h1.over
  have hoi := (cutHd_le r o B h2).1
  unfold headF hdOf
  rw [if_pos hlt, hd, h1.over]
  simp only
  rw [← hn]
  by_cases hx : a.name = (x : Int)
  ·rw [if_pos hx, if_pos hx, hl]
  ·rw [if_neg hx, if_neg hx]
   exact headF_eq r o f h2 (by omega)
theorem headC_eq {C : List UInt8} {A : List Int} {B x : Nat} {hs : List Hd} (hb : beginC C = some B) (h : CutHd C A 0 B hs) : headC C (x : Int) = some (match hdOf hs x with | some m => (m : Int) | none => -1) := by
 have := begin_le hb
 unfold headC
 rw [hb]
 exact headF_eq hs 0 _ h (by omega)
def innT (c : Core) (g : Nat) : Nat := if c.kind = 1 ∨ c.kind = 2 then g else g ||| nmBits c.parts
def ownT (c : Core) (g : Nat) : List Fl :=
 if c.kind = 0 ∨ c.kind = 1 then nameFl c.name (innT c g) 26 ++ (if c.kind = 1 ∧ 0 < c.label then [⟨c.name, -1, (c.label : Int)⟩] else []) else []
def flL {α : Type} (rec : Nat → List α → List Fl) (g : Nat) : List (Core × List α × List α) → List Fl
 | [] => []
 | q :: r => ownT q.1 g ++ rec (innT q.1 g) q.2.1 ++ rec (innT q.1 g) q.2.2 ++ flL rec g r
def flT (n : Nat) : Nat → List (RT n) → List Fl :=
 match n with
 | 0 => fun _ _ => []
 | n + 1 => fun g l => flL (flT n) g l
theorem nameFl_len (dst : Int) (inn : Nat) : ∀ n, (nameFl dst inn n).length ≤ n
 | 0 => Nat.le_refl _
 | n + 1 => by
  have := nameFl_len dst inn n
  unfold nameFl
  split <;> simp <;> omega
theorem own27 (c : Core) (g : Nat) : (ownT c g).length ≤ 27 := by
 have := nameFl_len c.name (innT c g) 26
 unfold ownT
 split
 ·split <;> simp <;> omega
 ·simp
theorem flows_eq {C : List UInt8} {A : List Int} (hC : C.length ≤ 400) : ∀ (n : Nat) (l : List (RT n)) (lo hi g f : Nat), CutT C A n lo hi l → hi ≤ C.length → hi - lo < f → flowsF C f lo hi g = some (flT n g l) ∧ (flT n g l).length ≤ 27 * (hi - lo)
 | 0, l, lo, hi, g, 0, h, _, hf => by omega
 | 0, l, lo, hi, g, f + 1, h, _, hf => by
  have h' : lo = hi := h
  subst h'
  unfold flowsF
  rw [if_neg (Nat.lt_irrefl _)]
  exact ⟨rfl, by simp [flT]⟩
 | n + 1, l, lo, hi, g, f, h, hh, hf => by
  generalize hH : hi = H at *
  have key : ∀ (l : List (Core × List (RT n) × List (RT n))) (lo f : Nat), CutL (fun i o q => CutOne C A (CutT C A n) i o q) lo H l → H - lo < f → flowsF C f lo H g = some (flL (flT n) g l) ∧ (flL (flT n) g l).length ≤ 27 * (H - lo) := by
   intro l
   induction l with
   | nil =>
    intro lo f h hf
    have h' : lo = H := h
    subst h'
    cases f with
    | zero => omega
    | succ f => unfold flowsF; rw [if_neg (Nat.lt_irrefl _)]; exact ⟨rfl, by simp [flL]⟩
   | cons q r ih =>
    intro lo f h hf
    obtain ⟨hlt, o, h1, h2⟩ := h
    obtain ⟨e, he, he1, he2, he3, he4, he5, he6⟩ := h1.rest
    obtain ⟨tw, hb, hb1, hb2⟩ := h1.blocks
    have hsp := span_ok h1.over he hb
    have hog := over_gt h1.over
    have hi := over_lt h1.over
    have hx : tw.q ≤ C.length ∧ tw.s ≤ C.length := by
     have s1 := shutC_le C
     have a2 := s1 (shutC C lo)
     have a3 := s1 (lo + 2)
     have hol := over_le h1.over
     have hbb := hb
     rw [blocks_at h1.over hi] at hbb
     repeat' split at hbb
     all_goals (cases hbb; simp only; omega)
    have hoh := (cutL_le r o _ (fun i o q hq => over_gt hq.over) h2).1
    cases f with
    | zero => omega
    | succ f =>
    have hlb := h1.label
    have hinn : innOf C e g = innT q.1 g := by
     unfold innOf innT
     rw [he6, he4]
     by_cases hk : q.1.kind = 1 ∨ q.1.kind = 2
     ·rw [if_pos hk, if_pos hk, if_neg (by omega)]
     ·rw [if_neg hk, if_neg hk, if_pos (by omega)]
    have hown : ownFl e (innOf C e g) = ownT q.1 g := by
     rw [hinn]
     unfold ownFl ownT
     by_cases hk : q.1.kind = 0 ∨ q.1.kind = 1
     ·have hn : e.name = q.1.name := by rw [he5, if_pos hk]
      have hnm := h1.name hk
      rw [if_pos (by omega), if_pos hk, hn]
      congr 1
      by_cases hk1 : q.1.kind = 1
      ·have hl : e.label = (q.1.label : Int) := by rw [he6, if_pos (.inl hk1)]
       rw [hl]
       by_cases hl0 : 0 < q.1.label
       ·rw [if_pos (by omega), if_pos ⟨hk1, hl0⟩]
       ·rw [if_neg (by omega), if_neg (fun e => hl0 e.2)]
      ·have hl : e.label = -1 := by rw [he6, if_neg (by omega)]
       rw [hl, if_neg (by omega), if_neg (fun e => hk1 e.1)]
     ·have hn : e.name = -1 := by rw [he5, if_neg hk]
      rw [if_neg (by omega), if_neg hk]
    obtain ⟨w1, l1⟩ := flows_eq hC n q.2.1 tw.p tw.q (innT q.1 g) f hb1 hx.1 (by omega)
    obtain ⟨w2, l2⟩ := flows_eq hC n q.2.2 tw.r tw.s (innT q.1 g) f hb2 hx.2 (by omega)
    obtain ⟨w3, l3⟩ := ih o f h2 (by omega)
    have hol := own27 q.1 g
    have hsum : (ownT q.1 g ++ flT n (innT q.1 g) q.2.1 ++ flT n (innT q.1 g) q.2.2 ++ flL (flT n) g r).length ≤ 27 * (H - lo) := by
     simp only [List.length_append]
     omega
    refine ⟨?_, hsum⟩
    unfold flowsF
    rw [if_pos hlt, he, hb, h1.over]
    simp only
    rw [if_pos ⟨he1, he2⟩, hown, hinn, w1, w2, w3]
    simp only
    rw [if_pos]
    ·rfl
    ·have := hsum
     simp only [List.length_append] at this ⊢
     omega
  exact key l lo f h hf
end Go.Proofs.YtdgmoiflahoihaaGreatDoor
