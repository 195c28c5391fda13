import Derived.Test.YtdgmoiflahoihaaGreatPFl
import Derived.Test.YtdgmoiflahoihaaGreatRSt

/- How the document's answer works rules out, as a plain function, and that the program does the same. -/
namespace Go.Proofs.YtdgmoiflahoihaaGreat
set_option linter.unusedSimpArgs false
set_option linter.unusedVariables false

def repO (f : SR → Option SR) : Nat → SR → Option SR
  | 0, s => some s
  | n + 1, s => match f s with | some s' => repO f n s' | none => none

/-- The values of the names behind a rule that gives one (or none) a value. -/
def giveO (e : Rest) (v : Vl) (s : SR) : List Vl := if 0 ≤ e.name then s.1.set e.name.toNat v else s.1

/-- What a rule does that has an expression (its blocks: p1, p2). -/
def ruleO (p1 p2 : SR → Option SR) (c : UInt8) (a : Int) (e : Rest) (v : Vl) (s : SR) : Option SR :=
  if c = 62 then (if 0 ≤ e.label then some (giveO e v s, s.2 ++ [⟨0, a.toNat, e.label.toNat, v⟩]) else none)
  else if c = 94 then (if 0 ≤ e.label then some (giveO e v s, s.2 ++ [⟨1, a.toNat, e.label.toNat, v⟩]) else none)
  else if c = 40 then (if v.fault = 0 then (if v.num ≠ 0 then p1 (giveO e v s, s.2) else p2 (giveO e v s, s.2)) else some (giveO e v s, s.2))
  else some (giveO e v s, s.2)

/-- One rule, at lo. -/
def stepO (C : List UInt8) (A : List Int) (play : Nat → Nat → SR → Option SR) (lo : Nat) (s : SR) : Option SR :=
  match restC C lo, blocksC C lo, C[lo]?, A[lo]? with
  | some e, some t, some c, some a =>
    if c = 42 then
      match C[lo + 1]? with
      | some d => if 48 ≤ d.toNat then repO (fun s => play t.p t.q s) (d.toNat - 48) s else none
      | none => none
    else
      match valueF C s.1 (C.length + 1) e.lo e.hi with
      | some v => if e.hi ≤ C.length ∧ e.name < 26 ∧ 0 ≤ a then ruleO (fun s => play t.p t.q s) (fun s => play t.r t.s s) c a e v s else none
      | none => none
  | _, _, _, _ => none

/-- The rules from lo to hi are worked out. -/
def playF (C : List UInt8) (A : List Int) : Nat → Nat → Nat → SR → Option SR
  | 0, _, _, _ => none
  | f + 1, lo, hi, s =>
    if lo < hi then
      match overC C lo, stepO C A (playF C A f) lo s with
      | some o, some s' => playF C A f o hi s'
      | _, _ => none
    else some s

theorem playF_out (C : List UInt8) (A : List Int) (f lo hi : Nat) (s : SR) (h : ¬ lo < hi) : playF C A (f + 1) lo hi s = some s := by
  unfold playF
  rw [if_neg h]

theorem playF_in {C : List UInt8} {A : List Int} {f lo hi o : Nat} {s s' : SR} (h : lo < hi) (ho : overC C lo = some o) (hs : stepO C A (playF C A f) lo s = some s') : playF C A (f + 1) lo hi s = playF C A f o hi s' := by
  conv => lhs; unfold playF
  rw [if_pos h, ho, hs]

theorem repO_some {f : SR → Option SR} {g : SR → SR} (h : ∀ s, f s = some (g s)) : ∀ (n : Nat) (s : SR), repO f n s = some (repS g n s)
  | 0, s => rfl
  | n + 1, s => by
    unfold repO repS
    rw [h s]
    exact repO_some h n (g s)

theorem Ev.value {C : List UInt8} {i j : Nat} {s : Option (Nat × Nat)} {P : List Pt} (h : Ev C i j s P) (names : List Vl) : valueF C names (C.length + 1) i j = some (valueV names P) := by
  obtain ⟨v, h1, h2⟩ := h.val
  have hle := h.le
  rw [h1 names _ (by omega)]
  unfold valueV
  rw [h2]
  simp [topV]

theorem play_eq {C : List UInt8} {A : List Int} : ∀ (n : Nat) (l : List (RT n)) (lo hi f : Nat) (s : SR), CutT C A n lo hi l → hi ≤ C.length → hi - lo < f → playF C A f lo hi s = some (doF n s l)
  | 0, l, lo, hi, 0, s, h, _, hf => by omega
  | 0, l, lo, hi, f + 1, s, h, _, hf => by
    have h' : lo = hi := h
    subst h'
    exact playF_out C A f lo lo s (Nat.lt_irrefl _)
  | n + 1, l, lo, hi, f, s, h, hh, hf => by
    have key : ∀ (l : List (Core × List (RT n) × List (RT n))) (lo f : Nat) (s : SR), CutL (fun i o q => CutOne C A (CutT C A n) i o q) lo hi l → hi - lo < f → playF C A f lo hi s = some (doL (doF n) s l) := by
      intro l
      induction l with
      | nil =>
        intro lo f s h hf
        have h' : lo = hi := h
        subst h'
        cases f with
        | zero => omega
        | succ f => exact playF_out C A f lo lo s (Nat.lt_irrefl _)
      | cons q r ih =>
        intro lo f s h hf
        obtain ⟨hlt, o, h1, h2⟩ := h
        obtain ⟨e, he, he1, he2, _, _, hnm, hlb⟩ := h1.rest
        obtain ⟨tw, hb, hb1, hb2⟩ := h1.blocks
        obtain ⟨c, hc, hc42, hc40, hc62, hc94⟩ := h1.byte
        have hpl := h1.place
        have hsp := span_ok h1.over he hb
        have hog := over_gt h1.over
        have hi' := over_lt h1.over
        have hx : tw.q ≤ C.length ∧ tw.s ≤ C.length := by
          have s1 := shutC_le C
          have a2 := s1 (shutC C lo)
          have a3 := s1 (lo + 2)
          have hol := over_le h1.over
          have hbb := hb
          rw [blocks_at h1.over hi'] at hbb
          repeat' split at hbb
          all_goals (cases hbb; simp only; omega)
        have hoh := (cutL_le r o _ (fun i o q hq => over_gt hq.over) h2).1
        cases f with
        | zero => omega
        | succ f =>
        have w1 := fun s => play_eq n q.2.1 tw.p tw.q f s hb1 hx.1 (by omega)
        have w2 := fun s => play_eq n q.2.2 tw.r tw.s f s hb2 hx.2 (by omega)
        have w3 := fun s => ih o f s h2 (by omega)
        have hst : stepO C A (playF C A f) lo s = some (doT (doF n) s q) := by
          unfold stepO
          rw [he, hb, hc, hpl]
          simp only
          by_cases k4 : q.1.kind = 4
          · rw [if_pos (hc42.mpr k4)]
            obtain ⟨d, hd, d1, d2, hcnt⟩ := h1.times k4
            rw [hd]
            simp only
            rw [if_pos (by omega), repO_some (g := fun s => doF n s q.2.1) w1]
            have e1 : q.1.count.toNat = d.toNat - 48 := by omega
            unfold doT
            simp [k4, e1]
          · rw [if_neg (fun k => k4 (hc42.mp k))]
            obtain ⟨e', he', sv, hev⟩ := h1.val k4
            rw [he] at he'
            cases he'
            rw [hev.1.value]
            simp only
            obtain ⟨kd0, kd4⟩ := h1.kind
            have hnn := h1.name
            have hgd : e.hi ≤ C.length ∧ e.name < 26 ∧ (0 : Int) ≤ (q.1.place : Int) := by
              refine ⟨he2, ?_, by omega⟩
              rw [hnm]
              split
              · rename_i hk
                exact (hnn hk).2
              · omega
            rw [if_pos hgd]
            unfold ruleO doT
            generalize valueV s.1 q.1.parts = v
            by_cases k2 : q.1.kind = 2
            · rw [if_pos (hc62.mpr k2)]
              have n1 : e.name = -1 := by rw [hnm]; simp [k2]
              have n2 : e.label = (q.1.label : Int) := by rw [hlb]; simp [k2]
              unfold giveO
              rw [n1, n2]
              simp [k2]
            rw [if_neg (fun k => k2 (hc62.mp k))]
            by_cases k1 : q.1.kind = 1
            · rw [if_pos (hc94.mpr k1)]
              have hn := hnn (.inr k1)
              have n1 : e.name = q.1.name := by rw [hnm]; simp [k1]
              have n2 : e.label = (q.1.label : Int) := by rw [hlb]; simp [k1]
              unfold giveO
              rw [n1, n2, if_pos hn.1]
              simp [k1]
            rw [if_neg (fun k => k1 (hc94.mp k))]
            by_cases k3 : q.1.kind = 3
            · rw [if_pos (hc40.mpr k3)]
              have n1 : e.name = -1 := by rw [hnm]; simp [k3]
              have hg : giveO e v s = s.1 := by unfold giveO; rw [n1]; simp
              rw [hg]
              simp only [k3]
              by_cases v0 : v.fault = 0
              · by_cases v1 : v.num = 0
                · simp [v0, v1, w2]
                · simp [v0, v1, w1]
              · simp [v0]
            · rw [if_neg (fun k => k3 (hc40.mp k))]
              have k0 : q.1.kind = 0 := by omega
              have hn := hnn (.inl k0)
              have n1 : e.name = q.1.name := by rw [hnm]; simp [k0]
              unfold giveO
              rw [n1, if_pos hn.1]
              simp [k0]
        rw [playF_in hlt h1.over hst, w3]
        rfl
    exact key l lo f s h hf

end Go.Proofs.YtdgmoiflahoihaaGreat
