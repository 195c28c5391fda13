import Derived.Test.YtdgmoiflahoihabGreatXTopw

namespace Go.Proofs.YtdgmoiflahoihabGreat
set_option linter.unusedSimpArgs false
set_option linter.unusedVariables false
theorem copy_step {l : List Ic} {fs : List Int} {s : SR} {x : XS} {nm : Int} (hr : Rel s x) (hat : l.getD x.pc ⟨0, 0, 0, 0⟩ = ⟨2, nm, 35, 0⟩) (h0 : 0 ≤ nm) (h26 : nm < 26) :
  ∃ x', stepsX l fs 1 x x' ∧ x'.pc = x.pc + 1 ∧ Rel (s.1.set nm.toNat (x.regs.getD 35 vl0), s.2) x' ∧ (∀ i, 26 ≤ i → x'.regs.getD i vl0 = x.regs.getD i vl0) := by
 have s1 := steps_one (fs := fs) hat (by simp)
 have hst : stepX ⟨2, nm, 35, 0⟩ fs x = ⟨x.regs.set nm.toNat (x.regs.getD 35 vl0), x.notes, x.pc + 1⟩ := by
  unfold stepX XS.give XS.reg
  simp only
  rw [if_neg (by decide), if_pos trivial]
  rfl
 rw [hst] at s1
 refine ⟨_, s1, rfl, ⟨by simp [hr.len], by simp [hr.all], fun i hi => ?_, hr.notes⟩, fun i hi => ?_⟩
 ·simp only
  rw [regs_set (by rw [hr.len]; omega), regs_set (by rw [hr.all]; omega), hr.names i hi]
 ·simp only
  rw [regs_set (by rw [hr.len]; omega), if_neg (by omega)]
theorem note_step {l : List Ic} {fs : List Int} {s : SR} {x : XS} {op : Int} {place label : Nat} (hr : Rel s x) (hat : l.getD x.pc ⟨0, 0, 0, 0⟩ = ⟨op, place, label, 35⟩) (ho : op = 14 ∨ op = 15) :
  ∃ x', stepsX l fs 1 x x' ∧ x'.pc = x.pc + 1 ∧ Rel (s.1, s.2 ++ [⟨op - 14, place, label, x.regs.getD 35 vl0⟩]) x' ∧ x'.regs = x.regs := by
 have s1 := steps_one (fs := fs) hat (by simp only; omega)
 have hst : stepX ⟨op, place, label, 35⟩ fs x = ⟨x.regs, x.notes ++ [⟨op - 14, place, label, x.regs.getD 35 vl0⟩], x.pc + 1⟩ := by
  unfold stepX XS.give XS.reg
  rcases ho with rfl | rfl
  ·simp
  ·simp
 rw [hst] at s1
 refine ⟨_, s1, rfl, ⟨hr.len, hr.all, hr.names, ?_⟩, rfl⟩
 simp only
 rw [hr.notes]
structure Kept (loops : Nat) (x x' : XS) : Prop where
 low : ∀ j, j < loops → x'.regs.getD (27 + j) vl0 = x.regs.getD (27 + j) vl0
 one : x.regs.getD 26 vl0 = ⟨1, 0⟩ → x'.regs.getD 26 vl0 = ⟨1, 0⟩
theorem Kept.refl (loops : Nat) (x : XS) : Kept loops x x := ⟨fun _ _ => rfl, id⟩
theorem Kept.trans {loops : Nat} {x y z : XS} (h : Kept loops x y) (g : Kept loops y z) : Kept loops x z := ⟨fun j hj => (g.low j hj).trans (h.low j hj), fun e => g.one (h.one e)⟩
theorem Kept.of {loops : Nat} {x y : XS} (h : ∀ i, 26 ≤ i → i < 27 + loops → y.regs.getD i vl0 = x.regs.getD i vl0) : Kept loops x y := ⟨fun j hj => h _ (by omega) (by omega), fun e => (h 26 (by omega) (by omega)).trans e⟩
def GenRuns {α : Type} (ok : List α → Prop) (wk : List α → Nat) (rec : Nat → Nat → List α → List Ic) (act : SR → List α → SR) (m : Nat) : Prop :=
 ∀ (l : List Ic) (fs : List Int) (r : List α) (p loops : Nat) (x : XS) (s : SR), ok r → loops ≤ m → AtP l p (rec p loops r) → Rel s x → x.pc = p →
  ∃ k x', k ≤ 3 * wk r ∧ stepsX l fs k x x' ∧ x'.pc = p + (rec p loops r).length ∧ Rel (act s r) x' ∧ Kept loops x x'
theorem rounds_run {α : Type} {ok : List α → Prop} {wk : List α → Nat} {rec : Nat → Nat → List α → List Ic} {act : SR → List α → SR} {m : Nat} (hg : GenRuns ok wk rec act m) {l : List Ic} {fs : List Int} {r : List α} {p loops : Nat} (hok : ok r) (hm : loops + 1 ≤ m)
  (hat : AtP l p (rec p (loops + 1) r ++ [⟨5, (27 + loops : Nat), (27 + loops : Nat), 26⟩, ⟨13, (27 + loops : Nat), (p + (rec p (loops + 1) r).length + 3 : Nat), (p + (rec p (loops + 1) r).length + 3 : Nat)⟩, ⟨12, (p : Nat), 0, 0⟩])) (hlo : 27 + loops < 100) :
  ∀ (c : Nat) (x : XS) (s : SR), Rel s x → x.pc = p → x.regs.getD (27 + loops) vl0 = ⟨((c + 1 : Nat) : Int), 0⟩ → c ≤ 100 → x.regs.getD 26 vl0 = ⟨1, 0⟩ →
   ∃ k x', k ≤ (c + 1) * (3 * wk r + 3) ∧ stepsX l fs k x x' ∧ x'.pc = p + (rec p (loops + 1) r).length + 3 ∧ Rel (repS (fun s => act s r) (c + 1) s) x' ∧ Kept loops x x'
 | c, x, s, hr, hp, hc, hc9, h1 => by
  obtain ⟨k, x1, k1, s1, p1, r1, q1⟩ := hg l fs r p (loops + 1) x s hok hm hat.left hr hp
  have hb := hat.right
  have i0 := hb.head
  have i1 := hb.tail.head
  have i2 := hb.tail.tail.head
  have c1 : x1.regs.getD (27 + loops) vl0 = ⟨((c + 1 : Nat) : Int), 0⟩ := (q1.low loops (by omega)).trans hc
  have o1 := q1.one h1
  -- Sub
  have t1 := steps_one (l := l) (fs := fs) (s := x1) (x := ⟨5, (27 + loops : Nat), (27 + loops : Nat), 26⟩) (by rw [p1]; exact i0) (by simp)
  have e1 : stepX ⟨5, (27 + loops : Nat), (27 + loops : Nat), 26⟩ fs x1 = ⟨x1.regs.set (27 + loops) ⟨(c : Int), 0⟩, x1.notes, x1.pc + 1⟩ := by
   unfold stepX XS.give XS.reg
   simp only
   rw [if_neg (by decide), if_neg (by decide), if_neg (by decide), if_neg (by decide), if_neg (by decide), if_neg (by decide), if_neg (by decide), if_neg (by decide)]
   rw [show (((27 + loops : Nat) : Int)).toNat = 27 + loops by omega, show (26 : Int).toNat = 26 by rfl, c1, o1]
   have : opV 5 ⟨((c + 1 : Nat) : Int), 0⟩ ⟨1, 0⟩ = ⟨(c : Int), 0⟩ := by
    unfold opV numsV
    simp only
    rw [if_neg (by decide), if_neg (by decide), if_neg (by decide), if_pos trivial, vlOf_fits ⟨by omega, by omega⟩]
    congr 1
    omega
   rw [this]
  rw [e1] at t1
  generalize hx2 : (⟨x1.regs.set (27 + loops) ⟨(c : Int), 0⟩, x1.notes, x1.pc + 1⟩ : XS) = x2 at t1
  have p2 : x2.pc = p + (rec p (loops + 1) r).length + 1 := by rw [← hx2]; simp only; omega
  have r2 : Rel (act s r) x2 := by
   rw [← hx2]
   refine ⟨by simp [r1.len], r1.all, fun i hi => ?_, r1.notes⟩
   simp only
   rw [regs_set (by rw [r1.len]; omega), if_neg (by omega)]
   exact r1.names i hi
  have c2 : x2.regs.getD (27 + loops) vl0 = ⟨(c : Int), 0⟩ := by rw [← hx2]; simp only; rw [regs_set (by rw [r1.len]; omega), if_pos rfl]
  have q2 : Kept loops x1 x2 := Kept.of fun i h26 hi => by rw [← hx2]; simp only; rw [regs_set (by rw [r1.len]; omega), if_neg (by omega)]
  have o2 := q2.one o1
  -- When
  have t2 := steps_one (l := l) (fs := fs) (s := x2) (x := ⟨13, (27 + loops : Nat), (p + (rec p (loops + 1) r).length + 3 : Nat), (p + (rec p (loops + 1) r).length + 3 : Nat)⟩) (by rw [p2]; exact i1) (by simp)
  have q12 : Kept loops x x2 := (Kept.trans ⟨fun j hj => q1.low j (by omega), q1.one⟩ q2)
  have key : (c + 1) * (3 * wk r + 3) = c * (3 * wk r + 3) + (3 * wk r + 3) := Nat.succ_mul ..
  cases c with
  | zero =>
   have e2 : stepX ⟨13, (27 + loops : Nat), (p + (rec p (loops + 1) r).length + 3 : Nat), (p + (rec p (loops + 1) r).length + 3 : Nat)⟩ fs x2 = { x2 with pc := p + (rec p (loops + 1) r).length + 3 } := by
    unfold stepX XS.reg
    simp only
    rw [if_neg (by decide), if_neg (by decide), if_neg (by decide), if_neg (by decide), if_neg (by decide), if_pos trivial, show (((27 + loops : Nat) : Int)).toNat = 27 + loops by omega, c2]
    simp
    omega
   rw [e2] at t2
   refine ⟨k + 1 + 1, _, by omega, steps_trans _ _ _ _ _ (steps_trans _ _ _ _ _ s1 t1) t2, rfl, ⟨r2.len, r2.all, r2.names, r2.notes⟩, ⟨q12.low, q12.one⟩⟩
  | succ c =>
   have e2 : stepX ⟨13, (27 + loops : Nat), (p + (rec p (loops + 1) r).length + 3 : Nat), (p + (rec p (loops + 1) r).length + 3 : Nat)⟩ fs x2 = { x2 with pc := x2.pc + 1 } := by
    unfold stepX XS.reg
    simp only
    rw [if_neg (by decide), if_neg (by decide), if_neg (by decide), if_neg (by decide), if_neg (by decide), if_pos trivial, show (((27 + loops : Nat) : Int)).toNat = 27 + loops by omega, c2]
    simp only
    rw [if_neg (by decide), if_neg (by omega)]
   rw [e2] at t2
   have t3 := steps_one (l := l) (fs := fs) (s := { x2 with pc := x2.pc + 1 }) (x := ⟨12, (p : Nat), 0, 0⟩) (by simp only; rw [p2]; exact i2) (by simp)
   have e3 : stepX ⟨12, (p : Nat), 0, 0⟩ fs { x2 with pc := x2.pc + 1 } = { x2 with pc := p } := by
    unfold stepX
    simp only
    rw [if_neg (by decide), if_neg (by decide), if_neg (by decide), if_neg (by decide), if_pos trivial]
    simp
   rw [e3] at t3
   obtain ⟨k4, x4, b1, b2, b3, b4, b5⟩ := rounds_run hg hok hm hat hlo c { x2 with pc := p } (act s r) ⟨r2.len, r2.all, r2.names, r2.notes⟩ rfl c2 (by omega) o2
   refine ⟨k + 1 + 1 + 1 + k4, x4, by omega, steps_trans _ _ _ _ _ (steps_trans _ _ _ _ _ (steps_trans _ _ _ _ _ (steps_trans _ _ _ _ _ s1 t1) t2) t3) b2, b3, b4, q12.trans ⟨b5.low, b5.one⟩⟩
theorem rule_runs {α : Type} {ok : List α → Prop} {wk : List α → Nat} {rec : Nat → Nat → List α → List Ic} {act : SR → List α → SR} {m : Nat} (hg : GenRuns ok wk rec act (m + 1)) (l : List Ic) (fs : List Int) (q : Core × List α × List α) (p loops : Nat) (x : XS) (s : SR) (hc : CoreOk q.1) (hh : q.1.kind ≠ 4 → Hg 34 q.1.parts) (h1 : ok q.2.1) (h2 : ok q.2.2) (hm : loops ≤ m) (hm8 : m ≤ 8) (hat : AtP l p (genT rec p loops q)) (hr : Rel s x) (hp : x.pc = p) :
  ∃ k x', k ≤ 3 * workT wk q ∧ stepsX l fs k x x' ∧ x'.pc = p + (genT rec p loops q).length ∧ Rel (doT act s q) x' ∧ Kept loops x x' := by
 obtain ⟨k0, k4⟩ := hc.kind
 have wk4 : q.1.kind ≠ 4 → workT wk q = 1 + q.1.parts.length + wk q.2.1 + wk q.2.2 := fun h => by unfold workT; rw [if_neg h]
 subst hp
 have hle := exprI_len q.1.parts 35
 by_cases e0 : q.1.kind = 0
 ·obtain ⟨n0, n26⟩ := hc.name (.inl e0)
  have hw := wk4 (by omega)
  unfold genT at hat ⊢
  rw [if_pos e0] at hat ⊢
  obtain ⟨x1, a1, a2, a3, a4, a5⟩ := expr_value (fs := fs) hc.parts (hh (by omega)) hat.left hr
  have hb := hat.right
  rw [hle, ← a2] at hb
  obtain ⟨x2, b1, b2, b3, b4⟩ := copy_step (fs := fs) a3 hb.head n0 n26
  rw [a4] at b3
  refine ⟨_, x2, by omega, steps_trans _ _ _ _ _ a1 b1, by rw [b2, a2]; simp [hle]; omega, ?_, (Kept.of fun i h26 hi => a5 i (by omega)).trans (Kept.of fun i h26 hi => b4 i h26)⟩
  unfold doT
  rw [if_pos e0]
  exact b3
 by_cases e1 : q.1.kind = 1
 ·obtain ⟨n0, n26⟩ := hc.name (.inr e1)
  have hw := wk4 (by omega)
  unfold genT at hat ⊢
  rw [if_neg e0, if_pos e1] at hat ⊢
  obtain ⟨x1, a1, a2, a3, a4, a5⟩ := expr_value (fs := fs) hc.parts (hh (by omega)) hat.left hr
  have hb := hat.right
  rw [hle, ← a2] at hb
  obtain ⟨x2, b1, b2, b3, b4⟩ := copy_step (fs := fs) a3 hb.head n0 n26
  rw [a4] at b3
  obtain ⟨x3, d1, d2, d3, d4⟩ := note_step (fs := fs) b3 (by rw [b2]; exact hb.tail.head) (.inr rfl)
  have e35 : x2.regs.getD 35 vl0 = valueV s.1 q.1.parts := (b4 35 (by omega)).trans a4
  rw [e35] at d3
  refine ⟨_, x3, by omega, steps_trans _ _ _ _ _ (steps_trans _ _ _ _ _ a1 b1) d1, by rw [d2, b2, a2]; simp [hle]; omega, ?_, ((Kept.of fun i h26 hi => a5 i (by omega)).trans (Kept.of fun i h26 hi => b4 i h26)).trans (Kept.of fun i h26 hi => by rw [d4])⟩
  unfold doT
  rw [if_neg e0, if_pos e1]
  exact d3
 by_cases e2 : q.1.kind = 2
 ·have hw := wk4 (by omega)
  unfold genT at hat ⊢
  rw [if_neg e0, if_neg e1, if_pos e2] at hat ⊢
  obtain ⟨x1, a1, a2, a3, a4, a5⟩ := expr_value (fs := fs) hc.parts (hh (by omega)) hat.left hr
  have hb := hat.right
  rw [hle, ← a2] at hb
  obtain ⟨x3, d1, d2, d3, d4⟩ := note_step (fs := fs) a3 hb.head (.inl rfl)
  rw [a4] at d3
  refine ⟨_, x3, by omega, steps_trans _ _ _ _ _ a1 d1, by rw [d2, a2]; simp [hle]; omega, ?_, (Kept.of fun i h26 hi => a5 i (by omega)).trans (Kept.of fun i h26 hi => by rw [d4])⟩
  unfold doT
  rw [if_neg e0, if_neg e1, if_pos e2]
  exact d3
 by_cases e3 : q.1.kind = 3
 ·have hw := wk4 (by omega)
  unfold genT at hat ⊢
  rw [if_neg e0, if_neg e1, if_neg e2, if_pos e3] at hat ⊢
  unfold doT
  rw [if_neg e0, if_neg e1, if_neg e2, if_pos e3]
  rw [hle] at hat ⊢
  generalize hP1 : x.pc + q.1.parts.length + 1 = P1 at hat ⊢
  generalize hF : rec P1 loops q.2.1 = F at hat ⊢
  generalize hP2 : P1 + F.length + 1 = P2 at hat ⊢
  generalize hS : rec P2 loops q.2.2 = S at hat ⊢
  obtain ⟨x1, a1, a2, a3, a4, a5⟩ := expr_value (fs := fs) hc.parts (hh (by omega)) hat.left hr
  have hb := hat.right
  rw [hle, ← a2] at hb
  have kx1 : Kept loops x x1 := Kept.of fun i h26 hi => a5 i (by omega)
  have t1 := steps_one (l := l) (fs := fs) (s := x1) hb.head (by simp)
  have hF1 := hb.tail.left
  have hJ := hb.tail.right.head
  have hS1 := hb.tail.right.tail
  rw [a2, hP1] at hF1 hJ hS1
  rw [hP2] at hS1
  have hlen : x.pc + (exprI q.1.parts 35 ++ (⟨13, 35, (P2 : Nat), (P2 + S.length : Nat)⟩ :: (F ++ (⟨12, (P2 + S.length : Nat), 0, 0⟩ :: S)))).length = P2 + S.length := by
   simp only [List.length_append, List.length_cons, hle]
   omega
  rw [hlen]
  have e : stepX ⟨13, 35, (P2 : Nat), (P2 + S.length : Nat)⟩ fs x1 = { x1 with pc := if (valueV s.1 q.1.parts).fault ≠ 0 then P2 + S.length else if (valueV s.1 q.1.parts).num = 0 then P2 else x1.pc + 1 } := by
   unfold stepX XS.reg
   simp only
   rw [if_neg (by decide), if_neg (by decide), if_neg (by decide), if_neg (by decide), if_neg (by decide), if_pos trivial, show (35 : Int).toNat = 35 by rfl, a4]
   simp only [Int.toNat_natCast]
  rw [e] at t1
  by_cases f0 : (valueV s.1 q.1.parts).fault ≠ 0
  ·rw [if_pos f0] at t1 ⊢
   exact ⟨_, _, by omega, steps_trans _ _ _ _ _ a1 t1, rfl, ⟨a3.len, a3.all, a3.names, a3.notes⟩, ⟨kx1.low, kx1.one⟩⟩
  rw [if_neg f0] at t1 ⊢
  by_cases n0 : (valueV s.1 q.1.parts).num = 0
  ·rw [if_pos n0] at t1
   rw [if_neg (by simpa using n0)]
   obtain ⟨k, x2, b1, b2, b3, b4, b5⟩ := hg l fs q.2.2 P2 loops { x1 with pc := P2 } s h2 (by omega) (by rw [hS]; exact hS1) ⟨a3.len, a3.all, a3.names, a3.notes⟩ rfl
   rw [hS] at b3
   exact ⟨_, x2, by omega, steps_trans _ _ _ _ _ (steps_trans _ _ _ _ _ a1 t1) b2, b3, b4, kx1.trans ⟨b5.low, b5.one⟩⟩
  ·rw [if_neg n0] at t1
   rw [if_pos n0]
   obtain ⟨k, x2, b1, b2, b3, b4, b5⟩ := hg l fs q.2.1 P1 loops { x1 with pc := x1.pc + 1 } s h1 (by omega) (by rw [hF]; exact hF1) ⟨a3.len, a3.all, a3.names, a3.notes⟩ (by simp only; omega)
   rw [hF] at b3
   have t3 := steps_one (l := l) (fs := fs) (s := x2) (x := ⟨12, (P2 + S.length : Nat), 0, 0⟩) (by rw [b3]; exact hJ) (by simp)
   have e3 : stepX ⟨12, (P2 + S.length : Nat), 0, 0⟩ fs x2 = { x2 with pc := P2 + S.length } := by
    unfold stepX
    simp only
    rw [if_neg (by decide), if_neg (by decide), if_neg (by decide), if_neg (by decide), if_pos trivial, Int.toNat_natCast]
   rw [e3] at t3
   exact ⟨_, _, by omega, steps_trans _ _ _ _ _ (steps_trans _ _ _ _ _ (steps_trans _ _ _ _ _ a1 t1) b2) t3, rfl, ⟨b4.len, b4.all, b4.names, b4.notes⟩, kx1.trans ⟨b5.low, b5.one⟩⟩
 ·have e4 : q.1.kind = 4 := by omega
  have hw : workT wk q = 1 + q.1.count.toNat * (1 + wk q.2.1) := by unfold workT; rw [if_pos e4]
  have hct := hc.once e4
  have hct9 := hc.count
  unfold genT at hat ⊢
  rw [if_neg e0, if_neg e1, if_neg e2, if_neg e3] at hat ⊢
  unfold doT
  rw [if_neg e0, if_neg e1, if_neg e2, if_neg e3]
  obtain ⟨c, hcn⟩ : ∃ c : Nat, q.1.count.toNat = c + 1 := ⟨q.1.count.toNat - 1, by omega⟩
  have hci : q.1.count = ((c + 1 : Nat) : Int) := by omega
  rw [hcn] at hw ⊢
  generalize hB : rec (x.pc + 2) (loops + 1) q.2.1 = B at hat ⊢
  have t1 := steps_one (l := l) (fs := fs) (s := x) hat.head (by simp)
  have e1' : stepX ⟨1, 26, 1, 0⟩ fs x = ⟨x.regs.set 26 ⟨1, 0⟩, x.notes, x.pc + 1⟩ := by
   unfold stepX XS.give
   simp only
   rw [if_pos trivial]
   rfl
  rw [e1'] at t1
  have t2 := steps_one (l := l) (fs := fs) (s := ⟨x.regs.set 26 ⟨1, 0⟩, x.notes, x.pc + 1⟩) hat.tail.head (by simp)
  have e2' : stepX ⟨1, (27 + loops : Nat), q.1.count, 0⟩ fs ⟨x.regs.set 26 ⟨1, 0⟩, x.notes, x.pc + 1⟩ = ⟨(x.regs.set 26 ⟨1, 0⟩).set (27 + loops) ⟨q.1.count, 0⟩, x.notes, x.pc + 1 + 1⟩ := by
   unfold stepX XS.give
   simp only
   rw [if_pos trivial]
   rw [Int.toNat_natCast]
  rw [e2'] at t2
  have hl2 : (x.regs.set 26 (⟨1, 0⟩ : Vl)).length = 100 := by simp [hr.len]
  have g2 : ∀ i, ((x.regs.set 26 (⟨1, 0⟩ : Vl)).set (27 + loops) ⟨q.1.count, 0⟩).getD i vl0 = if 27 + loops = i then ⟨q.1.count, 0⟩ else if 26 = i then ⟨1, 0⟩ else x.regs.getD i vl0 := by
   intro i
   rw [regs_set (by omega), regs_set (by rw [hr.len]; omega)]
  have hbody := hat.tail.tail
  rw [show x.pc + 1 + 1 = x.pc + 2 from rfl] at hbody t2
  obtain ⟨k, x', b1, b2, b3, b4, b5⟩ := rounds_run hg (l := l) (fs := fs) (r := q.2.1) (p := x.pc + 2) (loops := loops) h1 (by omega) (by rw [hB]; exact hbody) (by omega) c ⟨(x.regs.set 26 ⟨1, 0⟩).set (27 + loops) ⟨q.1.count, 0⟩, x.notes, x.pc + 2⟩ s ⟨by simp [hr.len], hr.all, fun i hi => by simp only; rw [g2, if_neg (by omega), if_neg (by omega)]; exact hr.names i hi, hr.notes⟩ rfl (by simp only; rw [g2, if_pos rfl, hci]) (by omega) (by simp only; rw [g2, if_neg (by omega), if_pos rfl])
  rw [hB] at b3
  have hmul : (c + 1) * (3 * wk q.2.1 + 3) = 3 * ((c + 1) * (1 + wk q.2.1)) := by
   rw [show 3 * wk q.2.1 + 3 = 3 * (1 + wk q.2.1) by omega, Nat.mul_left_comm]
  refine ⟨1 + 1 + k, x', by omega, steps_trans _ _ _ _ _ (steps_trans _ _ _ _ _ t1 t2) b2, ?_, b4, ?_⟩
  ·rw [b3]
   simp only [List.length_append, List.length_cons, List.length_nil]
   omega
  ·refine Kept.trans ⟨fun j hj => ?_, fun _ => ?_⟩ b5
   ·simp only
    rw [g2, if_neg (by omega), if_neg (by omega)]
   ·simp only
    rw [g2, if_neg (by omega), if_pos rfl]
def HtOk (n : Nat) : List (RT n) → Prop :=
 match n with
 | 0 => fun _ => True
 | n + 1 => fun l => ∀ q ∈ (l : List (Core × List (RT n) × List (RT n))), (q.1.kind ≠ 4 → Hg 34 q.1.parts) ∧ HtOk n q.2.1 ∧ HtOk n q.2.2
theorem rules_run : ∀ (n : Nat), n ≤ 9 → GenRuns (fun l => TreeOk n l ∧ HtOk n l) (workS n) (genF n) (doF n) (9 - n)
 | 0, _ => by
  intro l fs r p loops x s hok hm hat hr hp
  exact ⟨0, x, Nat.zero_le _, rfl, hp, hr, Kept.refl _ _⟩
 | n + 1, hn => by
  have ih := rules_run n (by omega)
  intro l fs r
  induction (r : List (Core × List (RT n) × List (RT n))) with
  | nil =>
   intro p loops x s hok hm hat hr hp
   exact ⟨0, x, Nat.zero_le _, rfl, hp, hr, Kept.refl _ _⟩
  | cons q r ihr =>
   intro p loops x s hok hm hat hr hp
   have hq := hok.1.2 q (by simp)
   have hq2 := hok.2 q (by simp)
   have hat' : AtP l p (genT (genF n) p loops q ++ genL (genF n) (p + (genT (genF n) p loops q).length) loops r) := hat
   obtain ⟨k1, x1, a1, a2, a3, a4, a5⟩ := rule_runs (ok := fun l => TreeOk n l ∧ HtOk n l) (wk := workS n) (act := doF n) (m := 9 - (n + 1)) (by rw [show 9 - (n + 1) + 1 = 9 - n by omega]; exact ih) l fs q p loops x s hq.1 hq2.1 ⟨hq.2.1, hq2.2.1⟩ ⟨hq.2.2, hq2.2.2⟩ hm (by omega) hat'.left hr hp
   have hrest : TreeOk (n + 1) r ∧ HtOk (n + 1) r := by
    refine ⟨⟨?_, fun y hy => hok.1.2 y (List.mem_cons_of_mem _ hy)⟩, fun y hy => hok.2 y (List.mem_cons_of_mem _ hy)⟩
    have hl := hok.1.1
    simp at hl
    omega
   obtain ⟨k2, x2, b1, b2, b3, b4, b5⟩ := ihr (p + (genT (genF n) p loops q).length) loops x1 _ hrest hm hat'.right a4 a3
   refine ⟨k1 + k2, x2, ?_, steps_trans _ _ _ _ _ a2 b2, ?_, b4, a5.trans b5⟩
   ·have e : workS (n + 1) (q :: r) = workT (workS n) q + workS (n + 1) r := workL_cons ..
    rw [e]
    omega
   ·rw [b3]
    show _ = p + (genT (genF n) p loops q ++ genL (genF n) (p + (genT (genF n) p loops q).length) loops r).length
    rw [List.length_append]
    show p + (genT (genF n) p loops q).length + (genL (genF n) (p + (genT (genF n) p loops q).length) loops r).length = _
    omega
end Go.Proofs.YtdgmoiflahoihabGreat
