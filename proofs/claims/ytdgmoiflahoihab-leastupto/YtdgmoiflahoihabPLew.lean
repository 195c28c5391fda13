import Derived.Test.YtdgmoiflahoihabPShw

namespace Go.Proofs.Ytdgmoiflahoihab
set_option linter.unusedSimpArgs false
set_option linter.unusedVariables false
def RecClean {α : Type} (fx : List Bool) (M : List Nat) (ok : List α → Prop) (flr : Nat → List α → List Fl) (rec : Nat → List α → Option Nat) : Prop :=
 ∀ l g G, ok l → GdC M g G → rec g l = none → ∀ fl ∈ flr G l, FlSat fx M fl
theorem cleanL_none {α : Type} {rec : Nat → List α → Option Nat} {M : List Nat} {g : Nat} {q : Core × List α × List α} {r : List (Core × List α × List α)} (h : cleanL rec M g (q :: r) = none) :
  cleanT M g q.1 = true ∧ rec (g ||| labL M q.1.parts 0) q.2.1 = none ∧ rec (g ||| labL M q.1.parts 0) q.2.2 = none ∧ cleanL rec M g r = none := by
 cases hc : cleanT M g q.1 with
 | false => rw [cleanL_bad hc] at h; cases h
 | true =>
  cases h1 : rec (g ||| labL M q.1.parts 0) q.2.1 with
  | some p => rw [cleanL_first hc h1] at h; cases h
  | none =>
   cases h2 : rec (g ||| labL M q.1.parts 0) q.2.2 with
   | some p => rw [cleanL_second hc h1 h2] at h; cases h
   | none => rw [cleanL_next hc h1 h2] at h; exact ⟨rfl, rfl, rfl, h⟩
theorem cleanL_sat {α : Type} {fx : List Bool} {M : List Nat} {ok bare : List α → Prop} {flr : Nat → List α → List Fl} {rec : Nat → List α → Option Nat} (hr : RecClean fx M (fun l => ok l ∧ bare l) flr rec) :
  ∀ (l : List (Core × List α × List α)) (g G : Nat), (∀ q ∈ l, CoreOk q.1 ∧ ok q.2.1 ∧ ok q.2.2) → BareL flr bare l → GdC M g G → cleanL rec M g l = none → ∀ fl ∈ flL flr G l, FlSat fx M fl
 | [], g, G, _, _, _, _ => fun fl hf => by cases hf
 | q :: r, g, G, hq, hb, hg, hs => by
  obtain ⟨a, b, c⟩ := hq q (by simp)
  obtain ⟨d, d1, d2⟩ := hb q (by simp)
  obtain ⟨hc, c1, c2, c3⟩ := cleanL_none hs
  have s3 := cleanL_sat hr r g G (fun x hx => hq x (by simp [hx])) (fun x hx => hb x (by simp [hx])) hg c3
  have hgo := gdc_or (P := q.1.parts) hg
  intro fl hf
  have hf' : fl ∈ ownT q.1 G ++ flr (innT q.1 G) q.2.1 ++ flr (innT q.1 G) q.2.2 ++ flL flr G r := hf
  rcases List.mem_append.mp hf' with hf' | hf'
  ·by_cases k34 : q.1.kind = 3 ∨ q.1.kind = 4
   ·have hi : innT q.1 G = G ||| nmBits q.1.parts := by unfold innT; rw [if_neg (by omega)]
    rw [← hi] at hgo
    have hown : ownT q.1 G = [] := by unfold ownT; rw [if_neg (by omega)]
    rw [hown, List.nil_append] at hf'
    rcases List.mem_append.mp hf' with h | h
    ·exact hr q.2.1 _ _ ⟨b, d1⟩ hgo c1 fl h
    ·exact hr q.2.2 _ _ ⟨c, d2⟩ hgo c2 fl h
   ·obtain ⟨n1, n2⟩ := d k34 (innT q.1 G)
    rw [n1, n2, List.append_nil, List.append_nil] at hf'
    by_cases k0 : q.1.kind = 0
    ·have hi : innT q.1 G = G ||| nmBits q.1.parts := by unfold innT; rw [if_neg (by omega)]
     have hcl : goesB (g ||| labL M q.1.parts 0) (M.getD q.1.name.toNat 0) = true := by
      unfold cleanT at hc; rw [if_pos k0] at hc; exact hc
     exact own_sat (lab := g ||| labL M q.1.parts 0) (g := g) (a.name (.inl k0)) (.inl k0) (by rw [hi]; exact hgo) (fun e => by omega) (.inr hcl) fl hf'
    ·by_cases k1 : q.1.kind = 1
     ·have hi : innT q.1 G = G := by unfold innT; rw [if_pos (.inl k1)]
      have hcl : goesB g q.1.label = true ∧ goesB q.1.label (M.getD q.1.name.toNat 0) = true := by
       unfold cleanT at hc
       rw [if_neg k0, if_pos k1] at hc
       exact Bool.and_eq_true_iff.mp hc
      refine own_sat (lab := q.1.label) (g := g) (a.name (.inr k1)) (.inr k1) ?_ (fun _ k hk => hk) (.inr hcl.2) fl hf'
      rw [hi]
      intro y k hy hbt hk
      exact goes_bit hcl.1 (hg y k hy hbt hk)
     ·unfold ownT at hf'
      rw [if_neg (by omega)] at hf'
      cases hf'
  ·exact s3 fl hf'
theorem cleanF_sat {fx : List Bool} {M : List Nat} : ∀ n, RecClean fx M (fun l => TreeOk n l ∧ BareT n l) (flT n) (cleanF M n)
 | 0 => fun l g G _ _ _ => fun fl hf => by cases hf
 | n + 1 => fun l g G hok hg hs => cleanL_sat (cleanF_sat n) l g G hok.1.2 hok.2 hg hs
theorem enlL_fix {α : Type} {fx : List Bool} {ok : List α → Prop} {rec : LS → List α → Nat → LS} (hfx : ∀ x, x < 26 → fx.getD x false = true) (hr : ∀ st l g, ok l → rec st l g = st) : ∀ (l : List (Core × List α × List α)) (st : LS) (g : Nat), (∀ q ∈ l, CoreOk q.1 ∧ ok q.2.1 ∧ ok q.2.2) → enlL rec fx st l g = st
 | [], st, g, _ => rfl
 | q :: r, st, g, hq => by
  obtain ⟨a, b, c⟩ := hq q (by simp)
  have hp : ∀ k lab, k < 26 → enlP fx st k lab = st := by
   intro k lab hk
   unfold enlP
   rw [hfx k hk]
   simp
  have e : enlR rec fx st q g = st := by
   unfold enlR
   split
   ·rename_i hk
    have := a.name (.inl hk)
    exact hp _ _ (by omega)
   split
   ·rename_i hk
    have := a.name (.inr hk)
    exact hp _ _ (by omega)
   split
   ·rw [hr _ _ _ b, hr _ _ _ c]
   ·rfl
  unfold enlL
  rw [e]
  exact enlL_fix hfx hr r st g (fun x hx => hq x (by simp [hx]))
theorem enlF_fix {fx : List Bool} (hfx : ∀ x, x < 26 → fx.getD x false = true) : ∀ (n : Nat) (st : LS) (l : List (RT n)) (g : Nat), TreeOk n l → enlF fx n st l g = st
 | 0, st, l, g, _ => rfl
 | n + 1, st, l, g, h => enlL_fix hfx (fun st l g hl => enlF_fix hfx n st l g hl) l st g h.2
theorem labelsP_fix {hs : List Hd} {l : List (RT 9)} (hfx : ∀ x, x < 26 → (headLab hs lab0).2.getD x false = true) (ht : TreeOk 9 l) : labelsP hs l = (headLab hs lab0).1 := by
 unfold labelsP labLoop
 rw [enlF_fix hfx 9 _ l 0 ht]
 rfl
end Go.Proofs.Ytdgmoiflahoihab
namespace Go.Proofs.Ytdgmoiflahoihab
set_option linter.unusedSimpArgs false
set_option linter.unusedVariables false
theorem checkP_of {T : List UInt8} (hl : T.length ≤ 400) (hb : (parseR T).1.bad = false) (htw : twiceL [] (parseH T).2 = none) (hwk : ¬ 5000 < workS 9 (parseR T).2) :
  checkP T = (match cleanF (labelsP (parseH T).2 (parseR T).2) 9 0 (parseR T).2 with | some p => (5, (p : Int)) | none => (0, 0)) := by
 unfold checkP
 rw [if_neg (by omega), hb, htw]
 simp only [Bool.false_eq_true, if_false]
 rw [if_neg hwk]
 cases cleanF (labelsP (parseH T).2 (parseR T).2) 9 0 (parseR T).2 <;> rfl
theorem less_not_clean {hs : List Hd} {l : List (RT 9)} {M : List Nat} {k x : Nat} (ht : TreeOk 9 l) (hbare : BareT 9 l) (hM : ∀ y m, hdOf hs y = some m → M.getD y 0 = m)
  (h : Has hs (flT 9 0 l) (2 ^ k) x) (hn : (M.getD x 0).testBit k = false) : cleanF M 9 0 l ≠ none := by
 intro hc
 have hsat := cleanF_sat (fx := []) (M := M) 9 l 0 0 ⟨ht, hbare⟩ (fun y k _ hy => absurd (Nat.zero_and _) hy) hc
 have := has_in (fx := []) hM (fun y _ => rfl) hsat h
 rw [hn] at this
 cases this
def prOf : List (Nat × Nat) → Nat → Option Nat
 | [], _ => none
 | p :: r, x => if p.1 = x then some p.2 else prOf r x
theorem hdOf_map (n x : Nat) : ∀ (l : List Hd), hdOf (l.map (Hd.sh n)) x = hdOf l x
 | [] => rfl
 | a :: r => by
  rw [List.map_cons]
  unfold hdOf
  rw [hdOf_map n x r]
  rfl
theorem hdOf_app (x : Nat) (b : List Hd) : ∀ (a : List Hd), hdOf (a ++ b) x = match hdOf a x with | some m => some m | none => hdOf b x
 | [] => rfl
 | h :: r => by
  have e1 : ∀ (r : List Hd), hdOf (h :: r) x = if h.name = (x : Int) then some h.label else hdOf r x := fun _ => rfl
  rw [List.cons_append, e1, e1]
  by_cases e : h.name = (x : Int)
  ·rw [if_pos e, if_pos e]
  ·rw [if_neg e, if_neg e]
   exact hdOf_app x b r
theorem hdOf_pre (x : Nat) : ∀ (ps : List (Nat × Nat)), hdOf (preH ps) x = prOf ps x
 | [] => rfl
 | p :: r => by
  unfold preH hdOf prOf
  by_cases e : p.1 = x
  ·rw [if_pos (by simp only; omega), if_pos e]
  ·rw [if_neg (by simp only; omega), if_neg e, hdOf_map, hdOf_pre x r]
theorem twice_free {l : List Hd} : ∀ (pre : List Hd), (∀ h ∈ l, hasN pre h.name = false) → l.Pairwise (fun a b => a.name ≠ b.name) → twiceL pre l = none := by
 induction l with
 | nil => intro pre _ _; rfl
 | cons a r ih =>
  intro pre h hp
  rw [twiceL_cons, h a (by simp)]
  simp only [Bool.false_eq_true, if_false]
  rw [List.pairwise_cons] at hp
  refine ih _ (fun b hb => ?_) hp.2
  have h1 := h b (by simp [hb])
  have h2 := hp.1 b hb
  unfold hasN at h1 ⊢
  rw [List.any_append, h1]
  simp [h2]
end Go.Proofs.Ytdgmoiflahoihab
namespace Go.Proofs.Ytdgmoiflahoihab
set_option linter.unusedSimpArgs false
set_option linter.unusedVariables false
theorem twice_pair : ∀ (l pre : List Hd), twiceL pre l = none → l.Pairwise (fun a b => a.name ≠ b.name)
 | [], _, _ => List.Pairwise.nil
 | a :: r, pre, h => by
  rw [twiceL_cons] at h
  cases hb : hasN pre a.name with
  | true => rw [hb, if_pos rfl] at h; cases h
  | false =>
   rw [hb] at h
   simp only [Bool.false_eq_true, if_false] at h
   refine List.Pairwise.cons (fun b hb' e => ?_) (twice_pair r _ h)
   exact twice_none (n := a.name) r _ h (by unfold hasN; rw [List.any_append]; simp) b hb' e.symm
theorem pair_map (n : Nat) {l : List Hd} (h : l.Pairwise (fun a b => a.name ≠ b.name)) : (l.map (Hd.sh n)).Pairwise (fun a b => a.name ≠ b.name) := by
 rw [List.pairwise_map]
 exact h
theorem preH_name : ∀ (ps : List (Nat × Nat)) (h : Hd), h ∈ preH ps → ∃ p ∈ ps, h.name = (p.1 : Int) ∧ h.label = p.2
 | [], h, hh => by cases hh
 | p :: r, h, hh => by
  rcases List.mem_cons.mp hh with rfl | hh
  ·exact ⟨p, by simp, rfl, rfl⟩
  ·obtain ⟨h', h1, rfl⟩ := List.mem_map.mp hh
   obtain ⟨q, q1, q2⟩ := preH_name r h' h1
   exact ⟨q, by simp [q1], q2⟩
theorem preH_pair : ∀ (ps : List (Nat × Nat)), ps.Pairwise (fun a b => a.1 ≠ b.1) → (preH ps).Pairwise (fun a b => a.name ≠ b.name)
 | [], _ => List.Pairwise.nil
 | p :: r, h => by
  rw [List.pairwise_cons] at h
  unfold preH
  refine List.Pairwise.cons (fun b hb e => ?_) (pair_map _ (preH_pair r h.2))
  obtain ⟨b', hb1, rfl⟩ := List.mem_map.mp hb
  obtain ⟨q, q1, q2, _⟩ := preH_name r b' hb1
  have e' : (p.1 : Int) = b'.name := e
  exact h.1 q q1 (by omega)
theorem hdOf_mem {l : List Hd} {x : Nat} (h : hdOf l x = none) : ∀ a ∈ l, ¬ a.name = (x : Int) := by
 induction l with
 | nil => intro a ha; cases ha
 | cons b r ih =>
  intro a ha e
  have e1 : hdOf (b :: r) x = if b.name = (x : Int) then some b.label else hdOf r x := rfl
  rw [e1] at h
  by_cases hb : b.name = (x : Int)
  ·rw [if_pos hb] at h; cases h
  ·rw [if_neg hb] at h
   rcases List.mem_cons.mp ha with rfl | ha
   ·exact hb e
   ·exact ih h a ha e
theorem told_twice {t : List UInt8} {ps : List (Nat × Nat)} (htw : twiceL [] (parseH t).2 = none) (hps : ∀ p ∈ ps, p.1 < 26 ∧ p.2 < 16) (hnd : ps.Pairwise (fun a b => a.1 ≠ b.1)) (hfree : ∀ p ∈ ps, hdOf (parseH t).2 p.1 = none) :
  twiceL [] (parseH (preB ps ++ t)).2 = none := by
 rw [parseH_pre ps t hps]
 refine twice_free [] (fun _ _ => rfl) ?_
 simp only
 rw [List.pairwise_append]
 refine ⟨preH_pair ps hnd, pair_map _ (twice_pair _ _ htw), fun a ha b hb e => ?_⟩
 obtain ⟨p, p1, p2, _⟩ := preH_name ps a ha
 obtain ⟨b', hb1, rfl⟩ := List.mem_map.mp hb
 have e' : a.name = b'.name := e
 exact hdOf_mem (hfree p p1) b' hb1 (by omega)
theorem told_check {t : List UInt8} {ps : List (Nat × Nat)} (hbad : (parseR t).1.bad = false) (htw : twiceL [] (parseH t).2 = none) (hwk : ¬ 5000 < workS 9 (parseR t).2) (ht : TreeOk 9 (parseR t).2) (hh : ∀ h ∈ (parseH t).2, HdOk h)
  (hps : ∀ p ∈ ps, p.1 < 26 ∧ p.2 < 16) (hnd : ps.Pairwise (fun a b => a.1 ≠ b.1)) (hfree : ∀ p ∈ ps, hdOf (parseH t).2 p.1 = none) (hall : ∀ x, x < 26 → prOf ps x = none → hdOf (parseH t).2 x ≠ none) (hlen : (preB ps ++ t).length ≤ 400) :
  ∃ M : List Nat, (∀ x, x < 26 → M.getD x 0 = match prOf ps x with | some m => m | none => (hdOf (parseH t).2 x).getD 0) ∧ labelsP (parseH (preB ps ++ t)).2 (parseR (preB ps ++ t)).2 = M ∧
   checkP (preB ps ++ t) = (match cleanF M 9 0 (parseR t).2 with | some p => (5, (((preB ps).length + p : Nat) : Int)) | none => (0, 0)) := by
 have q := parseR_pre ps t hps
 have hb' : (parseR (preB ps ++ t)).1.bad = false := by rw [q.rd]; exact hbad
 have hr := q.val hbad
 have htw' := told_twice htw hps hnd hfree
 have hpo := parse_ok hlen hb'
 have hl0 := fun k => headLab_one (k := k) (parseH (preB ps ++ t)).2 [] lab0 htw' hpo.heads rfl rfl
 have hho : ∀ x, hdOf (parseH (preB ps ++ t)).2 x = match prOf ps x with | some m => some m | none => hdOf (parseH t).2 x := by
  intro x
  rw [parseH_pre ps t hps]
  simp only
  rw [hdOf_app, hdOf_pre, hdOf_map]
  all_goals (cases prOf ps x <;> rfl)
 have hfx : ∀ x, x < 26 → (headLab (parseH (preB ps ++ t)).2 lab0).2.getD x false = true := by
  intro x hx
  rw [(hl0 x).2.1, hho x]
  cases hp : prOf ps x with
  | some m => rfl
  | none =>
   simp only
   cases hd : hdOf (parseH t).2 x with
   | some m => rfl
   | none => exact absurd hd (hall x hx hp)
 have hlab : labelsP (parseH (preB ps ++ t)).2 (parseR (preB ps ++ t)).2 = (headLab (parseH (preB ps ++ t)).2 lab0).1 := labelsP_fix hfx hpo.tree
 refine ⟨(headLab (parseH (preB ps ++ t)).2 lab0).1, fun x hx => ?_, hlab, ?_⟩
 ·rw [(hl0 x).1, hho x]
  cases hp : prOf ps x with
  | some m => rfl
  | none =>
   simp only
   cases hd : hdOf (parseH t).2 x with
   | some m => rfl
   | none => exact absurd hd (hall x hx hp)
 ·rw [checkP_of hlen hb' htw' (by rw [hr, work_sh]; exact hwk), hlab, hr, clean_sh]
  cases cleanF (headLab (parseH (preB ps ++ t)).2 lab0).1 9 0 (parseR t).2 <;> rfl
end Go.Proofs.Ytdgmoiflahoihab
namespace Go.Proofs.Ytdgmoiflahoihab
set_option linter.unusedSimpArgs false
set_option linter.unusedVariables false
theorem labelsP_facts {hs : List Hd} {l : List (RT 9)} (hk : ∀ h ∈ hs, HdOk h) (ht : TreeOk 9 l) (htw : twiceL [] hs = none) :
  Snd hs (flT 9 0 l) (labelsP hs l) ∧ ∀ x m, hdOf hs x = some m → (labelsP hs l).getD x 0 = m := by
 have hl0 := fun k => headLab_one (k := k) hs [] lab0 htw hk rfl rfl
 have hfx2 : ∀ x, x < 26 → (headLab hs lab0).2.getD x false = false → hdOf hs x = none := by
  intro x hx26 h
  have := (hl0 x).2.1
  rw [h] at this
  cases hd : hdOf hs x with
  | none => rfl
  | some m => rw [hd] at this; simp at this
 have hsnd : Snd hs (flT 9 0 l) (headLab hs lab0).1 := by
  intro x k hx hb
  rw [(hl0 x).1] at hb
  cases hd : hdOf hs x with
  | none =>
   rw [hd] at hb
   have e : lab0.1.getD x 0 = 0 := rep_getD 0 0 26 x hx
   simp only at hb
   rw [e] at hb
   simp at hb
  | some m =>
   rw [hd] at hb
   exact .head hd ((bit_iff _ _).mpr hb)
 obtain ⟨of, eo, o1, o2, o3, o4⟩ := labLoop_end (fx := (headLab hs lab0).2) hfx2 ht (fun _ => id) 400 _ (headLab_ok hs lab0 hk lab0_ok) hsnd (by omega)
 have hlab : labelsP hs l = of := eo
 rw [hlab]
 refine ⟨o2, fun x m hx => ?_⟩
 have hf : (headLab hs lab0).2.getD x false = true := by rw [(hl0 x).2.1, hx]; rfl
 rw [o3 x hf, (hl0 x).1, hx]
theorem prOf_mem : ∀ (ps : List (Nat × Nat)) (x m : Nat), prOf ps x = some m → (x, m) ∈ ps
 | [], x, m, h => by cases h
 | p :: r, x, m, h => by
  unfold prOf at h
  by_cases e : p.1 = x
  ·rw [if_pos e] at h
   cases h
   subst e
   simp
  ·rw [if_neg e] at h
   simp [prOf_mem r x m h]
theorem told_less {t : List UInt8} {ps : List (Nat × Nat)} {x k : Nat} (hbad : (parseR t).1.bad = false) (htw : twiceL [] (parseH t).2 = none) (hwk : ¬ 5000 < workS 9 (parseR t).2) (hpo : ParseOk t)
  (hps : ∀ p ∈ ps, p.1 < 26 ∧ p.2 < 16) (hnd : ps.Pairwise (fun a b => a.1 ≠ b.1)) (hfree : ∀ p ∈ ps, hdOf (parseH t).2 p.1 = none) (hall : ∀ x, x < 26 → prOf ps x = none → hdOf (parseH t).2 x ≠ none) (hlen : (preB ps ++ t).length ≤ 400)
  (hx : x < 26) (hset : ((labelsP (parseH t).2 (parseR t).2).getD x 0).testBit k = true) (hles : ∃ m, prOf ps x = some m ∧ m.testBit k = false) : (checkP (preB ps ++ t)).1 = 5 := by
 obtain ⟨M, hM, _, hc⟩ := told_check hbad htw hwk hpo.tree hpo.heads hps hnd hfree hall hlen
 obtain ⟨hs, _⟩ := labelsP_facts hpo.heads hpo.tree htw
 obtain ⟨m, hm, hmk⟩ := hles
 obtain ⟨_, B, _, _, c2⟩ := (parse_spec t).2 hbad
 have hne := less_not_clean (M := M) (hs := (parseH t).2) (k := k) (x := x) hpo.tree (cutT_bare 9 _ _ _ c2) (fun y m' hy => by
   by_cases hy26 : y < 26
   ·rw [hM y hy26]
    cases hp : prOf ps y with
    | some z =>
     have := hfree (y, z) (prOf_mem ps y z hp)
     simp only at this
     rw [this] at hy; cases hy
    | none => simp only; rw [hy]; rfl
   ·exfalso
    have : ∀ (l : List Hd), (∀ h ∈ l, HdOk h) → hdOf l y = some m' → False := by
     intro l
     induction l with
     | nil => intro _ e; cases e
     | cons a r ih =>
      intro ho e
      have e1 : hdOf (a :: r) y = if a.name = (y : Int) then some a.label else hdOf r y := rfl
      rw [e1] at e
      by_cases ha : a.name = (y : Int)
      ·obtain ⟨_, h2, _⟩ := ho a (by simp)
       omega
      ·rw [if_neg ha] at e
       exact ih (fun h hh => ho h (by simp [hh])) e
    exact this _ hpo.heads hy) (hs x k hx hset) (by rw [hM x hx, hm]; exact hmk)
 rw [hc]
 cases hcl : cleanF M 9 0 (parseR t).2 with
 | none => exact absurd hcl hne
 | some p => rfl
end Go.Proofs.Ytdgmoiflahoihab
namespace Go.Proofs.Ytdgmoiflahoihab
set_option linter.unusedSimpArgs false
set_option linter.unusedVariables false
theorem told_full {t : List UInt8} {ps : List (Nat × Nat)} (hbad : (parseR t).1.bad = false) (htw : twiceL [] (parseH t).2 = none) (hwk : ¬ 5000 < workS 9 (parseR t).2) (hpo : ParseOk t)
  (hps : ∀ p ∈ ps, p.1 < 26 ∧ p.2 < 16) (hnd : ps.Pairwise (fun a b => a.1 ≠ b.1)) (hfree : ∀ p ∈ ps, hdOf (parseH t).2 p.1 = none) (hall : ∀ x, x < 26 → prOf ps x = none → hdOf (parseH t).2 x ≠ none) (hlen : (preB ps ++ t).length ≤ 400)
  (hof : ∀ p ∈ ps, p.2 = (labelsP (parseH t).2 (parseR t).2).getD p.1 0) (hcl : cleanF (labelsP (parseH t).2 (parseR t).2) 9 0 (parseR t).2 = none) :
  checkP (preB ps ++ t) = (0, 0) ∧ labelsP (parseH (preB ps ++ t)).2 (parseR (preB ps ++ t)).2 = labelsP (parseH t).2 (parseR t).2 := by
 obtain ⟨M, hM, hlab, hc⟩ := told_check hbad htw hwk hpo.tree hpo.heads hps hnd hfree hall hlen
 obtain ⟨_, hhd⟩ := labelsP_facts hpo.heads hpo.tree htw
 have hb' : (parseR (preB ps ++ t)).1.bad = false := by rw [(parseR_pre ps t hps).rd]; exact hbad
 have hpo' := parse_ok hlen hb'
 have l1 : M.length = 26 := by rw [← hlab]; exact (labelsP_ok hpo'.heads hpo'.tree).len
 have l2 := (labelsP_ok hpo.heads hpo.tree).len
 have e : M = labelsP (parseH t).2 (parseR t).2 := by
  refine List.ext_getElem (by rw [l1, l2]) fun i hi1 hi2 => ?_
  have hi : i < 26 := by omega
  have e1 : M.getD i 0 = M[i] := by simp [List.getD_eq_getElem?_getD, hi1]
  have e2 : (labelsP (parseH t).2 (parseR t).2).getD i 0 = (labelsP (parseH t).2 (parseR t).2)[i] := by simp [List.getD_eq_getElem?_getD, hi2]
  rw [← e1, ← e2, hM i hi]
  cases hp : prOf ps i with
  | some m => exact hof (i, m) (prOf_mem ps i m hp)
  | none =>
   simp only
   cases hd : hdOf (parseH t).2 i with
   | none => exact absurd hd (hall i hi hp)
   | some m => exact (hhd i m hd).symm
 rw [hlab, hc, e, hcl]
 exact ⟨rfl, rfl⟩
end Go.Proofs.Ytdgmoiflahoihab
