import Derived.Test.YtdgmoiflahoihabPNumx

namespace Go.Proofs.Ytdgmoiflahoihab
open Go.RowKit
set_option linter.unusedSimpArgs false
set_option linter.unusedVariables false
def cpPieces : List (List UInt8) := [
 [120, 61, 120, 43, 49, 59],
 [62, 45, 120, 59],
 [120, 61, 97, 45, 120, 59, 62, 66, 32, 120, 42, 98, 59],
 [40, 97, 60, 120, 41, 123, 120, 61, 120, 45, 97, 59, 62, 45, 120, 59, 125, 123, 120, 61, 120, 42, 50, 43, 49, 59, 125],
 [94, 121, 58, 66, 61, 98, 43, 121, 59, 62, 66, 32, 121, 59],
 [42, 50, 123, 120, 61, 120, 43, 97, 59, 125, 62, 45, 120, 59],
 [98, 61, 98, 47, 120, 59, 62, 66, 32, 98, 59],
 [120, 61, 48, 45, 120, 59, 40, 120, 41, 123, 62, 45, 120, 47, 48, 59, 125],
 [62, 45, 97, 37, 120, 59, 120, 61, 120, 42, 120, 59]]
def cpPiece (i : Nat) : List UInt8 := cpPieces.getD i []
def cpBody (i j k : Nat) : List UInt8 := if k = 4 then cpPiece i else cpPiece i ++ cpPiece j
def cpHead : List UInt8 := [63, 97, 58, 45, 59, 63, 98, 58, 66, 59]
def cpOne (B : List UInt8) (k : Nat) : List UInt8 := cpHead ++ [42] ++ [UInt8.ofNat (48 + k)] ++ [123] ++ B ++ [125, 62, 45, 55, 59]
def cpMany (B : List UInt8) : Nat → List UInt8
 | 0 => []
 | k + 1 => cpMany B k ++ B
def cpTwo (B : List UInt8) (k : Nat) : List UInt8 := cpHead ++ cpMany B k ++ [62, 45, 55, 59]
def simP : List Pt → List Pt → Bool
 | [], [] => true
 | p :: r, q :: s => p.op == q.op && p.num == q.num && simP r s
 | _, _ => false
def simC (a b : Core) : Bool := a.kind == b.kind && a.name == b.name && a.label == b.label && a.count == b.count && simP a.parts b.parts
def simL {α β : Type} (rec : List α → List β → Bool) : List (Core × List α × List α) → List (Core × List β × List β) → Bool
 | [], [] => true
 | p :: r, q :: s => simC p.1 q.1 && rec p.2.1 q.2.1 && rec p.2.2 q.2.2 && simL rec r s
 | _, _ => false
def sim (n m : Nat) : List (RT n) → List (RT m) → Bool :=
 match n, m with
 | 0, _ => fun _ l => l.isEmpty
 | _ + 1, 0 => fun l _ => l.isEmpty
 | n + 1, m + 1 => fun l k => simL (sim n m) l k
def cpGood (B : List UInt8) (k : Nat) : Bool :=
 (checkP (cpOne B k)).1 == 0 && (checkP (cpTwo B k)).1 == 0 && countF (parseH (cpOne B k)).2 == 2 && simH (parseH (cpOne B k)).2 (parseH (cpTwo B k)).2 &&
 match (parseR (cpOne B k)).2 with
 | [(c, F, _), tl] => c.kind == 4 && c.count == (k : Int) && sim 8 9 (List.replicate k F).flatten (parseR (cpTwo B k)).2.dropLast && sim 9 9 [tl] [(parseR (cpTwo B k)).2.getLast?.getD tl] && !(parseR (cpTwo B k)).2.isEmpty && tl.1.kind == 2 && simP tl.1.parts [⟨1, 7⟩]
 | _ => false
where
  simH : List Hd → List Hd → Bool
    | [], [] => true
    | h :: r, k :: s => h.field == k.field && h.name == k.name && simH r s
    | _, _ => false
end Go.Proofs.Ytdgmoiflahoihab
namespace Go.Proofs.Ytdgmoiflahoihab
open Go.RowKit
set_option linter.unusedSimpArgs false
set_option linter.unusedVariables false
def clr (x : Nt) : Nt := { x with place := 0 }
theorem simP_eq : ∀ (p q : List Pt), simP p q = true → p = q
 | [], [], _ => rfl
 | [], q :: s, h => by simp [simP] at h
 | p :: r, [], h => by simp [simP] at h
 | p :: r, q :: s, h => by
  simp only [simP, Bool.and_eq_true, beq_iff_eq] at h
  obtain ⟨⟨h1, h2⟩, h3⟩ := h
  rw [simP_eq r s h3]
  cases p; cases q; simp only at h1 h2; rw [h1, h2]
theorem doF_nil (n : Nat) (s : SR) : doF n s [] = s := by cases n <;> rfl
theorem doL_app {α : Type} (rec : SR → List α → SR) : ∀ (l k : List (Core × List α × List α)) (s : SR), doL rec s (l ++ k) = doL rec (doL rec s l) k
 | [], k, s => rfl
 | q :: r, k, s => doL_app rec r k (doT rec s q)
theorem doF_app : ∀ (n : Nat) (l k : List (RT n)) (s : SR), doF n s (l ++ k) = doF n (doF n s l) k
 | 0, l, k, s => rfl
 | n + 1, l, k, s => doL_app (doF n) l k s
def Alike (s t : SR) : Prop := s.1 = t.1 ∧ s.2.map clr = t.2.map clr
theorem repS_alike {f g : SR → SR} (h : ∀ s t, Alike s t → Alike (f s) (g t)) : ∀ (n : Nat) (s t : SR), Alike s t → Alike (repS f n s) (repS g n t)
 | 0, s, t, k => k
 | n + 1, s, t, k => repS_alike h n _ _ (h s t k)
theorem doT_alike {α β : Type} {f : SR → List α → SR} {g : SR → List β → SR} {rec : List α → List β → Bool} (h : ∀ l k, rec l k = true → ∀ s t, Alike s t → Alike (f s l) (g t k)) {p : Core × List α × List α} {q : Core × List β × List β} (hc : simC p.1 q.1 = true) (h1 : rec p.2.1 q.2.1 = true) (h2 : rec p.2.2 q.2.2 = true) {s t : SR} (hs : Alike s t) : Alike (doT f s p) (doT g t q) := by
 simp only [simC, Bool.and_eq_true, beq_iff_eq] at hc
 obtain ⟨⟨⟨⟨e1, e2⟩, e3⟩, e4⟩, e5⟩ := hc
 have e6 := simP_eq _ _ e5
 obtain ⟨v1, v2⟩ := hs
 unfold doT
 rw [e1, e2, e3, e4, e6, v1]
 split
 ·exact ⟨rfl, v2⟩
 split
 ·refine ⟨rfl, ?_⟩
  simp only [List.map_append, v2]
  rfl
 split
 ·refine ⟨rfl, ?_⟩
  simp only [List.map_append, v2]
  rfl
 split
 ·split
  ·exact ⟨v1, v2⟩
  split
  ·exact h _ _ h1 _ _ ⟨v1, v2⟩
  ·exact h _ _ h2 _ _ ⟨v1, v2⟩
 ·exact repS_alike (fun s t k => h _ _ h1 s t k) _ _ _ ⟨v1, v2⟩
theorem doL_alike {α β : Type} {f : SR → List α → SR} {g : SR → List β → SR} {rec : List α → List β → Bool} (h : ∀ l k, rec l k = true → ∀ s t, Alike s t → Alike (f s l) (g t k)) : ∀ (l : List (Core × List α × List α)) (k : List (Core × List β × List β)), simL rec l k = true → ∀ s t, Alike s t → Alike (doL f s l) (doL g t k)
 | [], [], _, s, t, hs => hs
 | [], q :: r, hk, s, t, hs => by simp [simL] at hk
 | p :: r, [], hk, s, t, hs => by simp [simL] at hk
 | p :: r, q :: u, hk, s, t, hs => by
  simp only [simL, Bool.and_eq_true] at hk
  obtain ⟨⟨⟨a, b⟩, c⟩, d⟩ := hk
  exact doL_alike h r u d _ _ (doT_alike h a b c hs)
theorem sim_do : ∀ (n m : Nat) (l : List (RT n)) (k : List (RT m)), sim n m l k = true → ∀ s t, Alike s t → Alike (doF n s l) (doF m t k)
 | 0, m, l, k, h, s, t, hs => by
  have : k = [] := by unfold sim at h; simpa using h
  rw [this, doF_nil]
  exact hs
 | n + 1, 0, l, k, h, s, t, hs => by
  have : l = [] := by unfold sim at h; simpa using h
  rw [this, doF_nil]
  exact hs
 | n + 1, m + 1, l, k, h, s, t, hs => doL_alike (rec := sim n m) (fun a b h s t hs => sim_do n m a b h s t hs) l k h s t hs
theorem repS_flat (n : Nat) (F : List (RT n)) : ∀ (k : Nat) (s : SR), repS (fun s => doF n s F) k s = doF n s (List.replicate k F).flatten
 | 0, s => by simp [repS, doF_nil]
 | k + 1, s => by
  rw [List.replicate_succ, List.flatten_cons, doF_app]
  exact repS_flat n F k (doF n s F)
theorem fillV_sim : ∀ (h k : List Hd) (fs : List Int) (vals : List Vl), cpGood.simH h k = true → fillV h fs vals = fillV k fs vals ∧ countF h = countF k
 | [], [], fs, vals, _ => ⟨rfl, rfl⟩
 | [], k :: s, fs, vals, e => by simp [cpGood.simH] at e
 | h :: r, [], fs, vals, e => by simp [cpGood.simH] at e
 | h :: r, k :: s, fs, vals, e => by
  simp only [cpGood.simH, Bool.and_eq_true, beq_iff_eq] at e
  obtain ⟨⟨e1, e2⟩, e3⟩ := e
  refine ⟨?_, ?_⟩
  ·cases hf : h.field
   ·rw [fillV_skip hf, fillV_skip (by rw [← e1]; exact hf)]
    exact (fillV_sim r s fs vals e3).1
   ·cases fs with
    | nil => rw [fillV_none, fillV_none]; exact (fillV_sim r s [] vals e3).1
    | cons f g => rw [fillV_some hf, fillV_some (by rw [← e1]; exact hf), e2]; exact (fillV_sim r s g _ e3).1
  ·rw [countF_cons, countF_cons, e1, (fillV_sim r s fs vals e3).2]
structure CpRuns (B : List UInt8) (k : Nat) (a b : Int) (N M : List Nt) : Prop where
 one : runP (cpOne B k) [a, b] = (0, N)
 two : runP (cpTwo B k) [a, b] = (0, M)
 same : N.map clr = M.map clr
 last : ∃ L x, N = L ++ [x] ∧ x.val = ⟨7, 0⟩
theorem cp_runs {B : List UInt8} {k : Nat} (h : cpGood B k = true) (a b : Int) : ∃ N M, CpRuns B k a b N M := by
 unfold cpGood at h
 simp only [Bool.and_eq_true, beq_iff_eq] at h
 obtain ⟨⟨⟨⟨h1, h2⟩, h3⟩, h4⟩, h5⟩ := h
 obtain ⟨f1, f2⟩ := fillV_sim _ _ [a, b] vals0 h4
 have r1 : runP (cpOne B k) [a, b] = (0, (doF 9 (fillV (parseH (cpOne B k)).2 [a, b] vals0, []) (parseR (cpOne B k)).2).2) := by
  unfold runP
  rw [if_neg (by simpa using h1), if_neg (by simp [h3])]
 have r2 : runP (cpTwo B k) [a, b] = (0, (doF 9 (fillV (parseH (cpOne B k)).2 [a, b] vals0, []) (parseR (cpTwo B k)).2).2) := by
  unfold runP
  rw [if_neg (by simpa using h2), if_neg (by rw [← f2]; simp [h3]), f1]
 generalize fillV (parseH (cpOne B k)).2 [a, b] vals0 = V at *
 generalize (parseR (cpTwo B k)).2 = R2 at *
 generalize (parseR (cpOne B k)).2 = R1 at *
 split at h5
 ·rename_i c F u tl
  simp only [Bool.and_eq_true, beq_iff_eq] at h5
  obtain ⟨⟨⟨⟨⟨⟨g1, g2⟩, g3⟩, g4⟩, g5⟩, g6⟩, g7⟩ := h5
  have hne : R2 ≠ [] := by intro e; rw [e] at g5; simp at g5
  have hR2 : R2 = R2.dropLast ++ [R2.getLast?.getD tl] := by
   rw [List.getLast?_eq_some_getLast hne]
   exact (List.dropLast_concat_getLast hne).symm
  have d1 : doF 9 (V, []) [(c, F, u), tl] = doF 9 (doF 8 (V, []) (List.replicate k F).flatten) [tl] := by
   have e : repS (fun s => doF 8 s F) k (V, []) = doF 8 (V, []) (List.replicate k F).flatten := repS_flat 8 F k (V, [])
   have e0 : doT (doF 8) (V, []) ((c, F, u) : Core × List (RT 8) × List (RT 8)) = repS (fun s => doF 8 s F) k (V, []) := by
    unfold doT
    simp [g1, g2]
   exact congrArg (fun z => doT (doF 8) z tl) (e0.trans e)
  have d2 : doF 9 (V, []) R2 = doF 9 (doF 9 (V, []) R2.dropLast) [R2.getLast?.getD tl] := by
   conv => lhs; rw [hR2]
   exact doF_app 9 _ _ _
  have s1 := sim_do 8 9 _ _ g3 (V, []) (V, []) ⟨rfl, rfl⟩
  have s2 := sim_do 9 9 _ _ g4 _ _ s1
  refine ⟨_, _, r1, r2, ?_, ?_⟩
  ·rw [d1, d2]
   exact s2.2
  ·rw [d1]
   generalize doF 8 (V, []) (List.replicate k F).flatten = S
   have e7 := simP_eq _ _ g7
   refine ⟨S.2, ⟨0, tl.1.place, tl.1.label, valueV S.1 tl.1.parts⟩, ?_, ?_⟩
   ·show (doT (doF 8) S tl).2 = _
    unfold doT
    simp [g6]
   ·rw [e7]
    rfl
 ·cases h5
end Go.Proofs.Ytdgmoiflahoihab
