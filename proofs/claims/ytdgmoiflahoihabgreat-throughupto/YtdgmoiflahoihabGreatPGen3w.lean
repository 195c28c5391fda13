import Derived.Test.YtdgmoiflahoihabGreatPGen2w
import Derived.Test.YtdgmoiflahoihabGreatPCheckw
import Derived.Test.YtdgmoiflahoihabGreatRRunw

namespace Go.Proofs.YtdgmoiflahoihabGreat
set_option linter.unusedSimpArgs false
set_option linter.unusedVariables false
structure GoodI (N : Nat) (x : Ic) : Prop where
 fit : fitsI x N = true
 noin : x.op ≠ 11
 lo : -9223372036854775808 ≤ x.b
 hi : x.b ≤ 9223372036854775807
theorem bel_mk {a n : Int} (h0 : 0 ≤ a) (h1 : a < n) : bel a n = true := by simp [bel, h0, h1]
theorem good_set {N : Nat} {a b : Int} (h0 : 0 ≤ a) (h1 : a < 100) (hl : -9223372036854775808 ≤ b) (hh : b ≤ 9223372036854775807) : GoodI N ⟨1, a, b, 0⟩ :=
 ⟨by simp [fitsI, bel_mk h0 h1], by simp, hl, hh⟩
theorem good_two {N : Nat} {op a b : Int} (ho : op = 2 ∨ op = 3) (h0 : 0 ≤ a) (h1 : a < 100) (g0 : 0 ≤ b) (g1 : b < 100) : GoodI N ⟨op, a, b, 0⟩ := by
 refine ⟨?_, by simp only; omega, by simp only; omega, by simp only; omega⟩
 unfold fitsI
 simp only
 rw [if_neg (by omega), if_neg (by omega), if_pos ho, bel_mk h0 h1, bel_mk g0 g1]
 rfl
theorem good_op {N : Nat} {op a b c : Int} (ho : 4 ≤ op ∧ op ≤ 10) (h0 : 0 ≤ a) (h1 : a < 100) (g0 : 0 ≤ b) (g1 : b < 100) (k0 : 0 ≤ c) (k1 : c < 100) : GoodI N ⟨op, a, b, c⟩ := by
 refine ⟨?_, by simp only; omega, by simp only; omega, by simp only; omega⟩
 unfold fitsI
 simp only
 rw [if_neg (by omega), if_neg (by omega), if_neg (by omega), if_pos ho, bel_mk h0 h1, bel_mk g0 g1, bel_mk k0 k1]
 rfl
theorem good_jump {N a : Nat} (h : a < N) (hN : N ≤ 1000000) : GoodI N ⟨12, (a : Nat), 0, 0⟩ :=
 ⟨by simp [fitsI, bel_mk (show (0 : Int) ≤ (a : Int) by omega) (show (a : Int) < (N : Int) by omega)], by simp, by simp, by simp⟩
theorem good_when {N b c : Nat} {a : Int} (h0 : 0 ≤ a) (h1 : a < 100) (hb : b < N) (hc : c < N) (hN : N ≤ 1000000) : GoodI N ⟨13, a, (b : Nat), (c : Nat)⟩ :=
 ⟨by simp [fitsI, bel_mk h0 h1, bel_mk (show (0 : Int) ≤ (b : Int) by omega) (show (b : Int) < (N : Int) by omega), bel_mk (show (0 : Int) ≤ (c : Int) by omega) (show (c : Int) < (N : Int) by omega)], by simp, by simp only; omega, by simp only; omega⟩
theorem good_note {N p l : Nat} {op : Int} (ho : op = 14 ∨ op = 15) (hp : p ≤ 400) (hl : l < 16) : GoodI N ⟨op, (p : Nat), (l : Nat), 35⟩ := by
 refine ⟨?_, by simp only; omega, by simp only; omega, by simp only; omega⟩
 unfold fitsI
 simp only
 rw [if_neg (by omega), if_neg (by omega), if_neg (by omega), if_neg (by omega), if_neg (by omega), if_neg (by omega), if_neg (by omega), if_pos ho, bel_mk (by omega) (by omega), bel_mk (by omega) (by omega), bel_mk (by omega) (by omega)]
 rfl
theorem expr_good {N : Nat} : ∀ (P : List Pt) (k k' : Nat), (∀ p ∈ P, PtOk p) → (∀ p ∈ P, PtNum p) → k ≤ 65 → hRun 65 P k = some k' → ∀ x ∈ exprI P (35 + k), GoodI N x
 | [], k, k', _, _, _, _ => fun x hx => absurd hx (by simp [exprI])
 | p :: r, k, k', h1, h2, hk, hr => by
  have o1 := h1 p (by simp)
  have o2 := h2 p (by simp)
  have q1 : ∀ p ∈ r, PtOk p := fun q hq => h1 q (by simp [hq])
  have q2 : ∀ p ∈ r, PtNum p := fun q hq => h2 q (by simp [hq])
  unfold hRun at hr
  unfold exprI
  by_cases h12 : p.op = 1 ∨ p.op = 2
  ·rw [if_pos h12] at hr ⊢
   split at hr
   ·rename_i hB
    have ih := expr_good (N := N) r (k + 1) k' q1 q2 (by omega) hr
    intro x hx
    rcases List.mem_cons.mp hx with rfl | hx
    ·rcases h12 with e | e
     ·rw [e]
      exact good_set (by omega) (by omega) o2.1 o2.2
     ·rw [e]
      have := o1 e
      exact good_two (.inl rfl) (by omega) (by omega) (by omega) (by omega)
    ·rw [show (35 : Int) + (k : Int) + 1 = 35 + ((k + 1 : Nat) : Int) by omega] at hx
     exact ih x hx
   ·cases hr
  rw [if_neg h12] at hr ⊢
  by_cases h3 : p.op = 3
  ·rw [if_pos h3] at hr ⊢
   split at hr
   ·rename_i hB
    have ih := expr_good (N := N) r k k' q1 q2 hk hr
    intro x hx
    rcases List.mem_cons.mp hx with rfl | hx
    ·exact good_two (.inr rfl) (by omega) (by omega) (by omega) (by omega)
    ·exact ih x hx
   ·cases hr
  ·rw [if_neg h3] at hr ⊢
   split at hr
   ·rename_i hB
    have ih := expr_good (N := N) r (k - 1) k' q1 q2 (by omega) hr
    intro x hx
    rcases List.mem_cons.mp hx with rfl | hx
    ·exact good_op hB.2 (by omega) (by omega) (by omega) (by omega) (by omega) (by omega)
    ·rw [show (35 : Int) + (k : Int) - 1 = 35 + ((k - 1 : Nat) : Int) by omega] at hx
     exact ih x hx
   ·cases hr
def GenGood {α : Type} (ok : List α → Prop) (rec : Nat → Nat → List α → List Ic) (m : Nat) : Prop :=
 ∀ (r : List α) (p loops N : Nat), ok r → loops ≤ m → p + (rec p loops r).length < N → N ≤ 1000000 → ∀ x ∈ rec p loops r, GoodI N x
theorem rule_good {α : Type} {ok : List α → Prop} {rec : Nat → Nat → List α → List Ic} {m : Nat} (hg : GenGood ok rec (m + 1)) (q : Core × List α × List α) (p loops N : Nat) (hc : CoreOk q.1) (hh : q.1.kind ≠ 4 → Hg 34 q.1.parts) (hn : ∀ p ∈ q.1.parts, PtNum p) (h1 : ok q.2.1) (h2 : ok q.2.2) (hm : loops ≤ m) (hm8 : m ≤ 8) (hN : p + (genT rec p loops q).length < N) (hNN : N ≤ 1000000) : ∀ x ∈ genT rec p loops q, GoodI N x := by
 obtain ⟨k0, k4⟩ := hc.kind
 have hE : q.1.kind ≠ 4 → ∀ x ∈ exprI q.1.parts 35, GoodI N x := fun hk => by
  have := expr_good (N := N) q.1.parts 0 1 hc.parts hn (by omega) (hh hk 65 0 (by omega))
  simpa using this
 have hle := exprI_len q.1.parts 35
 have hpl := hc.place
 have hlb := hc.label
 unfold genT at hN ⊢
 by_cases e0 : q.1.kind = 0
 ·obtain ⟨n0, n26⟩ := hc.name (.inl e0)
  rw [if_pos e0]
  intro x hx
  rcases List.mem_append.mp hx with hx | hx
  ·exact hE (by omega) x hx
  ·rw [List.mem_singleton] at hx
   subst hx
   exact good_two (.inl rfl) n0 (by omega) (by omega) (by omega)
 rw [if_neg e0] at hN ⊢
 by_cases e1 : q.1.kind = 1
 ·obtain ⟨n0, n26⟩ := hc.name (.inr e1)
  rw [if_pos e1]
  intro x hx
  rcases List.mem_append.mp hx with hx | hx
  ·exact hE (by omega) x hx
  ·rcases List.mem_cons.mp hx with rfl | hx
   ·exact good_two (.inl rfl) n0 (by omega) (by omega) (by omega)
   ·rw [List.mem_singleton] at hx
    subst hx
    exact good_note (.inr rfl) hpl hlb
 rw [if_neg e1] at hN ⊢
 by_cases e2 : q.1.kind = 2
 ·rw [if_pos e2]
  intro x hx
  rcases List.mem_append.mp hx with hx | hx
  ·exact hE (by omega) x hx
  ·rw [List.mem_singleton] at hx
   subst hx
   exact good_note (.inl rfl) hpl hlb
 rw [if_neg e2] at hN ⊢
 by_cases e3 : q.1.kind = 3
 ·rw [if_pos e3] at hN ⊢
  rw [hle] at hN ⊢
  generalize hP1 : p + q.1.parts.length + 1 = P1 at hN ⊢
  generalize hF : rec P1 loops q.2.1 = F at hN ⊢
  generalize hP2 : P1 + F.length + 1 = P2 at hN ⊢
  generalize hS : rec P2 loops q.2.2 = S at hN ⊢
  simp only [List.length_append, List.length_cons, hle] at hN
  intro x hx
  rcases List.mem_append.mp hx with hx | hx
  ·exact hE (by omega) x hx
  rcases List.mem_cons.mp hx with rfl | hx
  ·exact good_when (by omega) (by omega) (by omega) (by omega) hNN
  rcases List.mem_append.mp hx with hx | hx
  ·exact hg q.2.1 P1 loops N h1 (by omega) (by rw [hF]; omega) hNN x (by rw [hF]; exact hx)
  rcases List.mem_cons.mp hx with rfl | hx
  ·exact good_jump (by omega) hNN
  ·exact hg q.2.2 P2 loops N h2 (by omega) (by rw [hS]; omega) hNN x (by rw [hS]; exact hx)
 ·rw [if_neg e3] at hN ⊢
  have hct9 := hc.count
  generalize hB : rec (p + 2) (loops + 1) q.2.1 = B at hN ⊢
  simp only [List.length_append, List.length_cons, List.length_nil] at hN
  intro x hx
  rcases List.mem_cons.mp hx with rfl | hx
  ·exact good_set (by omega) (by omega) (by omega) (by omega)
  rcases List.mem_cons.mp hx with rfl | hx
  ·exact good_set (by omega) (by omega) (by omega) (by omega)
  rcases List.mem_append.mp hx with hx | hx
  ·exact hg q.2.1 (p + 2) (loops + 1) N h1 (by omega) (by rw [hB]; omega) hNN x (by rw [hB]; exact hx)
  rcases List.mem_cons.mp hx with rfl | hx
  ·exact good_op (by omega) (by omega) (by omega) (by omega) (by omega) (by omega) (by omega)
  rcases List.mem_cons.mp hx with rfl | hx
  ·exact good_when (by omega) (by omega) (by omega) (by omega) hNN
  ·rw [List.mem_singleton] at hx
   subst hx
   exact good_jump (by omega) hNN
theorem rules_good : ∀ (n : Nat), n ≤ 9 → GenGood (fun l => TreeOk n l ∧ HtOk n l ∧ NumsOk n l) (genF n) (9 - n)
 | 0, _ => fun r p loops N _ _ _ _ x hx => absurd hx (by simp [genF])
 | n + 1, hn => by
  have ih := rules_good n (by omega)
  intro r
  induction (r : List (Core × List (RT n) × List (RT n))) with
  | nil => intro p loops N _ _ _ _ x hx; exact absurd hx (by simp [genF, genL])
  | cons q r ihr =>
   intro p loops N hok hm hN hNN x hx
   have hq := hok.1.2 q (by simp)
   have hq2 := hok.2.1 q (by simp)
   have hq3 := hok.2.2 q (by simp)
   have hx' : x ∈ genT (genF n) p loops q ++ genL (genF n) (p + (genT (genF n) p loops q).length) loops r := hx
   have hN' : p + (genT (genF n) p loops q ++ genL (genF n) (p + (genT (genF n) p loops q).length) loops r).length < N := hN
   rw [List.length_append] at hN'
   rcases List.mem_append.mp hx' with hx' | hx'
   ·exact rule_good (ok := fun l => TreeOk n l ∧ HtOk n l ∧ NumsOk n l) (m := 9 - (n + 1)) (by rw [show 9 - (n + 1) + 1 = 9 - n by omega]; exact ih) q p loops N hq.1 hq2.1 hq3.1 ⟨hq.2.1, hq2.2.1, hq3.2.1⟩ ⟨hq.2.2, hq2.2.2, hq3.2.2⟩ hm (by omega) (by omega) hNN x hx'
   ·refine ihr (p + (genT (genF n) p loops q).length) loops N ⟨⟨?_, fun y hy => hok.1.2 y (List.mem_cons_of_mem _ hy)⟩, fun y hy => hok.2.1 y (List.mem_cons_of_mem _ hy), fun y hy => hok.2.2 y (List.mem_cons_of_mem _ hy)⟩ hm ?_ hNN x hx'
    ·have hl := hok.1.1
     simp at hl
     omega
    ·show p + (genT (genF n) p loops q).length + (genL (genF n) (p + (genT (genF n) p loops q).length) loops r).length < N
     omega
theorem gen_short {C : List UInt8} {A : List Int} : ∀ (n : Nat) (l : List (RT n)) (lo hi p loops : Nat), CutT C A n lo hi l → (genF n p loops l).length ≤ 2 * (hi - lo)
 | 0, l, lo, hi, p, loops, _ => by simp [genF]
 | n + 1, l, lo, hi, p, loops, h => by
  have key : ∀ (l : List (Core × List (RT n) × List (RT n))) (lo p : Nat), CutL (fun i o q => CutOne C A (CutT C A n) i o q) lo hi l → (genL (genF n) p loops l).length ≤ 2 * (hi - lo) := by
   intro l
   induction l with
   | nil => intro lo p _; simp [genL]
   | cons q r ih =>
    intro lo p h
    obtain ⟨hlt, o, h1, h2⟩ := h
    obtain ⟨e, he, he1, he2, hsz, _, _, _⟩ := h1.rest
    obtain ⟨tw, hb, hb1, hb2⟩ := h1.blocks
    obtain ⟨c, hc, hc42, hc40, hc62, hc94⟩ := h1.byte
    have hsp := span_ok h1.over he hb
    have hog := over_gt h1.over
    have hoh := (cutL_le r o _ (fun i o q hq => over_gt hq.over) h2).1
    have hr := ih o (p + (genT (genF n) p loops q).length) h2
    have hsl := sizeC_le C e.lo e.hi
    have w1 := fun p loops => gen_short n q.2.1 tw.p tw.q p loops hb1
    have w2 := fun p loops => gen_short n q.2.2 tw.r tw.s p loops hb2
    have hle := exprI_len q.1.parts 35
    have hone : (genT (genF n) p loops q).length ≤ 2 * (o - lo) := by
     unfold genT
     split
     ·simp [hle]; omega
     split
     ·simp [hle]; omega
     split
     ·simp [hle]; omega
     split
     ·have a1 := w1 (p + q.1.parts.length + 1) loops
      rw [hle]
      have a2 := w2 (p + q.1.parts.length + 1 + (genF n (p + q.1.parts.length + 1) loops q.2.1).length + 1) loops
      simp only [List.length_append, List.length_cons, hle]
      omega
     ·rename_i k0 k1 k2 k3
      have a1 := w1 (p + 2) (loops + 1)
      have k4 : q.1.kind = 4 := by
       have := h1.kind
       omega
      have hct := cutT_le hb1
      have hci : C[lo]'(over_lt h1.over) = 42 := by
       have := hc42.mpr k4
       subst this
       exact (List.getElem?_eq_some_iff.mp hc).2
      have hov := h1.over
      rw [over_at (over_lt h1.over), if_neg (by rw [hci]; decide), if_pos hci] at hov
      cases hov
      have hb' := hb
      rw [blocks_at h1.over (over_lt h1.over), if_neg (by rw [hci]; decide), if_pos hci, if_pos rfl] at hb'
      cases hb'
      simp only at a1 hct
      simp only [List.length_append, List.length_cons, List.length_nil]
      omega
    show (genT (genF n) p loops q ++ genL (genF n) (p + (genT (genF n) p loops q).length) loops r).length ≤ _
    rw [List.length_append]
    omega
  exact key l lo p h
theorem cut_ht {C : List UInt8} {A : List Int} : ∀ (n : Nat) (l : List (RT n)) (lo hi : Nat), CutT C A n lo hi l → HtOk n l
 | 0, l, lo, hi, _ => trivial
 | n + 1, l, lo, hi, h => by
  have key : ∀ (l : List (Core × List (RT n) × List (RT n))) (lo : Nat), CutL (fun i o q => CutOne C A (CutT C A n) i o q) lo hi l → ∀ q ∈ l, (q.1.kind ≠ 4 → Hg 34 q.1.parts) ∧ HtOk n q.2.1 ∧ HtOk n q.2.2 := by
   intro l
   induction l with
   | nil => intro lo _ q hq; cases hq
   | cons q r ih =>
    intro lo h y hy
    obtain ⟨hlt, o, h1, h2⟩ := h
    rcases List.mem_cons.mp hy with rfl | hy
    ·obtain ⟨tw, hb, hb1, hb2⟩ := h1.blocks
     refine ⟨fun hk => ?_, cut_ht n _ _ _ hb1, cut_ht n _ _ _ hb2⟩
     obtain ⟨e, _, sv, hev⟩ := h1.val hk
     exact hev.2
    ·exact ih o h2 y hy
  exact key l lo h
theorem few_names : ∀ (n : Nat) (l : List Int), l.Nodup → (∀ x ∈ l, 0 ≤ x ∧ x < n) → l.length ≤ n
 | 0, l, _, h => by
  cases l with
  | nil => simp
  | cons x r => exact absurd (h x (by simp)) (by omega)
 | n + 1, l, hd, h => by
  have hf := few_names n (l.filter (fun x => decide (x ≠ (n : Int)))) (hd.filter _) (fun x hx => by
   have := List.mem_filter.mp hx
   have h1 := h x this.1
   have h2 : x ≠ (n : Int) := by simpa using this.2
   omega)
  have hc : l.length ≤ (l.filter (fun x => decide (x ≠ (n : Int)))).length + 1 := by
   clear hf h
   induction l with
   | nil => simp
   | cons x r ih =>
    have hd' := List.nodup_cons.mp hd
    by_cases e : x = (n : Int)
    ·have : r.filter (fun x => decide (x ≠ (n : Int))) = r := by
      rw [List.filter_eq_self]
      intro y hy
      simp
      intro he
      exact hd'.1 (by rw [e, ← he]; exact hy)
     rw [List.filter_cons_of_neg (by simp [e]), this]
     simp
    ·rw [List.filter_cons_of_pos (by simp [e])]
     simp only [List.length_cons]
     have := ih hd'.2
     omega
  omega
theorem twice_nodup : ∀ (l pre : List Hd), twiceL pre l = none → (l.map (·.name)).Nodup ∧ ∀ h ∈ l, ∀ g ∈ pre, g.name ≠ h.name
 | [], pre, _ => ⟨by simp, fun h hh => by cases hh⟩
 | h :: r, pre, ht => by
  rw [twiceL_cons] at ht
  split at ht
  ·cases ht
  ·rename_i hn
   obtain ⟨a, b⟩ := twice_nodup r (pre ++ [h]) ht
   have hpre : ∀ g ∈ pre, g.name ≠ h.name := by
    intro g hg he
    apply hn
    unfold hasN
    rw [List.any_eq_true]
    exact ⟨g, hg, by simpa using he⟩
   refine ⟨?_, fun x hx g hg => ?_⟩
   ·rw [List.map_cons, List.nodup_cons]
    refine ⟨fun hm => ?_, a⟩
    obtain ⟨y, hy, he⟩ := List.mem_map.mp hm
    exact b y hy h (by simp) he.symm
   ·rcases List.mem_cons.mp hx with rfl | hx
    ·exact hpre g hg
    ·exact b x hx g (by simp [hg])
theorem heads_few {l : List Hd} (h : twiceL [] l = none) (hok : ∀ h ∈ l, 0 ≤ h.name ∧ h.name < 26) : l.length ≤ 26 := by
 have := few_names 26 (l.map (·.name)) (twice_nodup l [] h).1 (fun x hx => by
  obtain ⟨y, hy, rfl⟩ := List.mem_map.mp hx
  exact hok y hy)
 simpa using this
theorem fieldsI_len : ∀ (l : List Hd) (k : Nat), (fieldsI l k).length = countF l
 | [], k => rfl
 | h :: r, k => by
  unfold fieldsI
  rw [countF_cons]
  split
  ·rename_i e; simp [e, fieldsI_len r (k + 1)]; omega
  ·rename_i e; simp [e, fieldsI_len r k]
theorem fieldsI_good {N : Nat} : ∀ (l : List Hd) (k : Nat), (∀ h ∈ l, 0 ≤ h.name ∧ h.name < 26) → k + countF l ≤ 26 → ∀ x ∈ fieldsI l k, fitsI x N = true ∧ x.op = 11 ∧ 0 ≤ x.b ∧ x.b < k + countF l
 | [], k, _, _ => fun x hx => absurd hx (by simp [fieldsI])
 | h :: r, k, hn, hk => by
  have h0 := hn h (by simp)
  have hn' : ∀ h ∈ r, 0 ≤ h.name ∧ h.name < 26 := fun y hy => hn y (by simp [hy])
  unfold fieldsI
  rw [countF_cons] at hk ⊢
  split
  ·rename_i e
   rw [if_pos e] at hk
   intro x hx
   rcases List.mem_cons.mp hx with rfl | hx
   ·refine ⟨?_, rfl, by simp only; omega, by simp only; omega⟩
    simp [fitsI, bel_mk h0.1 (show h.name < 100 by omega), bel_mk (show (0 : Int) ≤ (k : Int) by omega) (show (k : Int) < 26 by omega)]
   ·have := fieldsI_good (N := N) r (k + 1) hn' (by omega) x hx
    refine ⟨this.1, this.2.1, this.2.2.1, by omega⟩
  ·rename_i e
   rw [if_neg e] at hk
   intro x hx
   have := fieldsI_good (N := N) r k hn' (by omega) x hx
   refine ⟨this.1, this.2.1, this.2.2.1, by omega⟩
theorem fields_run {l : List Ic} {fs : List Int} {M : List Nt} : ∀ (hs : List Hd) (k : Nat) (x : XS) (vals : List Vl), (∀ h ∈ hs, 0 ≤ h.name ∧ h.name < 26) → AtP l x.pc (fieldsI hs k) → k + countF hs ≤ fs.length → Rel (vals, M) x →
  ∃ x', stepsX l fs (countF hs) x x' ∧ x'.pc = x.pc + countF hs ∧ Rel (fillV hs (fs.drop k) vals, M) x'
 | [], k, x, vals, _, _, _, hr => ⟨x, rfl, rfl, hr⟩
 | h :: r, k, x, vals, hn, hat, hk, hr => by
  have h0 := hn h (by simp)
  have hn' : ∀ h ∈ r, 0 ≤ h.name ∧ h.name < 26 := fun y hy => hn y (by simp [hy])
  unfold fieldsI at hat
  rw [countF_cons] at hk ⊢
  cases e : h.field
  ·rw [e] at hat hk
   simp only [Bool.false_eq_true, if_false] at hat hk ⊢
   rw [fillV_skip e, Nat.zero_add]
   exact fields_run r k x vals hn' hat (by omega) hr
  ·rw [e] at hat hk
   simp only [if_true] at hat hk ⊢
   have hkl : k < fs.length := by omega
   rw [List.drop_eq_getElem_cons hkl, fillV_some e]
   have s1 := steps_one (l := l) (fs := fs) (s := x) hat.head (by simp)
   have hst : stepX ⟨11, h.name, (k : Int), 0⟩ fs x = ⟨x.regs.set h.name.toNat ⟨fs[k], 0⟩, x.notes, x.pc + 1⟩ := by
    unfold stepX XS.give
    simp only
    rw [if_neg (by decide), if_neg (by decide), if_neg (by decide), if_pos trivial]
    simp [List.getElem?_eq_getElem hkl]
   rw [hst] at s1
   have hr1 : Rel (vals.set h.name.toNat ⟨fs[k], 0⟩, M) ⟨x.regs.set h.name.toNat ⟨fs[k], 0⟩, x.notes, x.pc + 1⟩ := by
    refine ⟨by simp [hr.len], by have := hr.all; simpa using this, fun i hi => ?_, hr.notes⟩
    have ha := hr.all
    simp only at ha ⊢
    rw [regs_set (by rw [hr.len]; omega), regs_set (l := vals) (by omega), hr.names i hi]
   obtain ⟨x', b1, b2, b3⟩ := fields_run (l := l) (fs := fs) (M := M) r (k + 1) ⟨x.regs.set h.name.toNat ⟨fs[k], 0⟩, x.notes, x.pc + 1⟩ _ hn' hat.tail (by omega) hr1
   exact ⟨x', steps_trans _ _ _ _ _ s1 b1, by rw [b2]; simp only; omega, b3⟩
theorem vloop_ok {n : Nat} {e : Ic} (he : endsI e = true) (hf : fitsI e n = true) : ∀ (l : List Ic) (k : Nat), (∀ x ∈ l, fitsI x n = true) → vloop n (l ++ [e]) k = (0, 0)
 | [], k, _ => by
  show (if fitsI e n && (!true || endsI e) then vloop n [] (k + 1) else _) = _
  rw [he, hf]
  rfl
 | x :: r, k, h => by
  have hx := h x (by simp)
  have ne : (r ++ [e]).isEmpty = false := by cases r <;> rfl
  show (if fitsI x n && (!(r ++ [e]).isEmpty || endsI x) then vloop n (r ++ [e]) (k + 1) else _) = _
  rw [hx, ne]
  exact vloop_ok he hf r (k + 1) (fun y hy => h y (by simp [hy]))
structure GenFacts (t : List UInt8) : Prop where
 valid : validI (genP t) = (0, 0)
 short : (genP t).length ≤ 2000
 bound : ∀ x ∈ genP t, -9223372036854775808 ≤ x.b ∧ x.b ≤ 9223372036854775807
 few : countF (parseH t).2 ≤ 26
 runs : ∀ fs : List Int, fs.length = countF (parseH t).2 → execI (genP t) fs = (0, (runP t fs).2)
theorem atP_self (l : List Ic) : AtP l 0 l := fun i _ => by rw [Nat.zero_add]
theorem gen_facts {t : List UInt8} (h : (checkP t).1 = 0) : GenFacts t := by
 obtain ⟨hl, hbad, htw, hwk, _⟩ := checkP_ok h
 have hpo := parse_ok hl hbad
 have hnum := parse_nums t
 obtain ⟨_, B, hb, hH, hT⟩ := (parse_spec t).2 hbad
 have hB := begin_le hb
 have hk := kept_le t
 have hnm : ∀ x ∈ (parseH t).2, 0 ≤ x.name ∧ x.name < 26 := fun x hx => ⟨(hpo.heads x hx).1, (hpo.heads x hx).2.1⟩
 have h26 := heads_few htw hnm
 have hcf : countF (parseH t).2 ≤ 26 := Nat.le_trans (List.length_filter_le _ _) h26
 have hfl := fieldsI_len (parseH t).2 0
 have hht := cut_ht 9 _ _ _ hT
 have hsh := gen_short 9 (parseR t).2 B (keptL t).length (fieldsI (parseH t).2 0).length 0 hT
 generalize hG : genF 9 (fieldsI (parseH t).2 0).length 0 (parseR t).2 = G at *
 generalize hF : fieldsI (parseH t).2 0 = F at *
 have eP : genP t = F ++ (G ++ [⟨0, 0, 0, 0⟩]) := by unfold genP; rw [hF, hG]
 have hlen : (genP t).length = F.length + G.length + 1 := by rw [eP]; simp; omega
 have hlen2 : (genP t).length ≤ 2000 := by omega
 have gF : ∀ x ∈ F, fitsI x (genP t).length = true ∧ x.op = 11 ∧ 0 ≤ x.b ∧ x.b < 0 + countF (parseH t).2 := by
  rw [← hF]
  exact fieldsI_good (N := (genP t).length) (parseH t).2 0 hnm (by omega)
 have gG : ∀ x ∈ G, GoodI (genP t).length x := by
  have := rules_good 9 (by omega) (parseR t).2 F.length 0 (genP t).length ⟨hpo.tree, hht, hnum⟩ (by omega) (by rw [hG]; omega) (by omega)
  rw [hG] at this
  exact this
 have hval : validI (genP t) = (0, 0) := by
  unfold validI
  rw [if_neg (by omega), if_neg (by omega)]
  have e2 : genP t = (F ++ G) ++ [⟨0, 0, 0, 0⟩] := by rw [eP]; simp
  generalize hN : (genP t).length = N at *
  rw [e2]
  refine vloop_ok (by rfl) (by rfl) _ _ (fun x hx => ?_)
  rcases List.mem_append.mp hx with hx | hx
  ·exact (gF x hx).1
  ·exact (gG x hx).fit
 refine ⟨hval, hlen2, fun x hx => ?_, hcf, fun fs hfs => ?_⟩
 ·rw [eP] at hx
  rcases List.mem_append.mp hx with hx | hx
  ·have := gF x hx
   omega
  rcases List.mem_append.mp hx with hx | hx
  ·exact ⟨(gG x hx).lo, (gG x hx).hi⟩
  ·rw [List.mem_singleton] at hx
   subst hx
   simp
 ·have hhas : hasI (genP t) fs.length = true := by
   unfold hasI
   rw [List.all_eq_true]
   intro x hx
   rw [eP] at hx
   rcases List.mem_append.mp hx with hx | hx
   ·have := gF x hx
    have h4 : ¬ ((fs.length : Int) ≤ x.b) := by omega
    simp [h4]
   rcases List.mem_append.mp hx with hx | hx
   ·have := (gG x hx).noin
    simp [this]
   ·rw [List.mem_singleton] at hx
    subst hx
    simp
  have hat : AtP (genP t) 0 (F ++ (G ++ [⟨0, 0, 0, 0⟩])) := by
   have := atP_self (genP t)
   rw [eP] at this ⊢
   exact this
  have r0 : Rel (vals0, []) x0 := ⟨by simp [x0, regs0], by simp [vals0], fun i hi => by simp only [x0, regs0, vals0, List.getD_eq_getElem?_getD]; rw [List.getElem?_replicate, List.getElem?_replicate, if_pos (by omega), if_pos hi], rfl⟩
  obtain ⟨x1, a1, a2, a3⟩ := fields_run (l := genP t) (fs := fs) (M := []) (parseH t).2 0 x0 vals0 hnm (by rw [hF]; exact hat.left) (by omega) r0
  have hp1 : x1.pc = F.length := by rw [a2, hfl]; show 0 + _ = _; omega
  have hatG : AtP (genP t) F.length (G ++ [⟨0, 0, 0, 0⟩]) := by have := hat.right; rwa [Nat.zero_add] at this
  obtain ⟨k, x2, b1, b2, b3, b4, b5⟩ := rules_run 9 (by omega) (genP t) fs (parseR t).2 F.length 0 x1 _ ⟨hpo.tree, hht⟩ (by omega) (by rw [hG]; exact hatG.left) a3 hp1
  rw [hG] at b3
  have hend := hatG.right.head
  rw [← b3] at hend
  have hx : execF (genP t) fs 50000 x0 = some x2.notes := by
   have s := steps_trans _ _ _ _ _ a1 b2
   rw [show 50000 = (countF (parseH t).2 + k) + ((50000 - (countF (parseH t).2 + k) - 1) + 1) by omega, steps_exec _ _ _ _ s]
   unfold execF
   rw [hend, if_pos rfl]
  unfold execI
  rw [if_neg (by rw [hval]; simp), if_pos hhas, hx]
  simp only
  rw [b4.notes]
  unfold runP
  rw [if_neg (by simpa using h), if_neg (by simpa using hfs)]
  simp
end Go.Proofs.YtdgmoiflahoihabGreat
