import Derived.Test.YtdgmoiflahoihaaGreatDoorRRulew

namespace Go.Proofs.YtdgmoiflahoihaaGreatDoor
open Go.RowKit
set_option linter.unusedSimpArgs false
set_option linter.unusedVariables false
def Making (n : Nat) (w : World) (B : Nat) (v : Value) (l : List (RT (n + 1))) : Prop :=
 RowsC (α := RT (n + 1)) (fun cs q => RuleV n w (fun k => B ≤ k ∧ some k ≠ v.ownBlock) cs q) w (fun k => B ≤ k) v l
def lenOfS : Value → Nat
 | .slice _ n _ => n
 | _ => 0
theorem making_nil (n : Nat) (w : World) (B : Nat) : Making n w B nilS [] := ⟨[], World.ownsRow_nil .., fun k e => (by cases e), rfl, fun i h => (by cases h)⟩
theorem making_done {n : Nat} {w : World} {B : Nat} {v : Value} {l : List (RT (n + 1))} (h : Making n w B v l) : RulesV (n + 1) w (fun k => B ≤ k) v l :=
 rowsC_frame (one := fun cs (q : RT (n + 1)) => RuleV n w (fun k => B ≤ k ∧ some k ≠ v.ownBlock) cs q) h (fun k hk _ => ⟨hk, rfl⟩) (fun cs q hq => ruleV_frame hq (fun k hk _ => ⟨hk.1, rfl⟩))
theorem making_frame {n : Nat} {w w' : World} {B : Nat} {v : Value} {l : List (RT (n + 1))} (h : Making n w B v l) (hk : ∀ k, B ≤ k → k < w.heap.size → w'.heap[k]? = w.heap[k]?) : Making n w' B v l :=
 rowsC_frame (one := fun cs (q : RT (n + 1)) => RuleV n w (fun k => B ≤ k ∧ some k ≠ v.ownBlock) cs q) h (fun k h1 h2 => ⟨h1, hk k h1 h2⟩) (fun cs q hq => ruleV_frame hq (fun k h1 h2 => ⟨h1, hk k h1.1 h2⟩))
theorem making_but {n : Nat} {w w' : World} {B b : Nat} {v : Value} {l : List (RT (n + 1))} (h : Making n w B v l) (hb : But b w w') (hB : b < B) : Making n w' B v l :=
 making_frame h (fun k h1 h2 => hb.block k h2 (fun e => by cases e; omega))
theorem making_more {n : Nat} {w w' : World} {B : Nat} {v v' : Value} {l : List (RT (n + 1))} {q : RT (n + 1)} {xs : List (List Value)} {cs : List Value} (hB : B ≤ w.heap.size)
  (h2 : ∀ k, v.ownBlock = some k → B ≤ k ∧ k < w.heap.size) (h3 : xs.length = l.length) (h4 : ∀ i (h : i < l.length) (h' : i < xs.length), RuleV n w (fun k => B ≤ k ∧ some k ≠ v.ownBlock) xs[i] l[i])
  (hq : RuleV n w (fun k => B ≤ k ∧ some k ≠ v.ownBlock) cs q)
  (ho : w'.ownsRow 0 149 8 v' (l.length + 1) (xs.flatten ++ cs)) (hg : w.grownBy w' v.ownBlock) (hf : v'.ownBlock = v.ownBlock ∨ ∃ g, v'.ownBlock = some g ∧ w.heap.size ≤ g) : Making n w' B v' (l ++ [q]) := by
 have hk : ∀ k, (B ≤ k ∧ some k ≠ v.ownBlock) → k < w.heap.size → (B ≤ k ∧ some k ≠ v'.ownBlock) ∧ w'.heap[k]? = w.heap[k]? := by
  intro k h1 hl
  refine ⟨⟨h1.1, ?_⟩, hg.block k hl h1.2⟩
  rcases hf with e | ⟨g, e, hge⟩
  ·rw [e]; exact h1.2
  ·rw [e]; intro e2; cases e2; omega
 refine ⟨xs ++ [cs], by simpa using ho, ?_, by simp [h3], ?_⟩
 ·intro k e
  rcases hf with e1 | ⟨g, e1, hge⟩
  ·rw [e1] at e; exact (h2 k e).1
  ·rw [e1] at e; cases e; omega
 ·intro i h h'
  by_cases hi : i < l.length
  ·have := ruleV_frame (h4 i hi (by omega)) hk
   simpa [List.getElem_append, hi, h3] using this
  ·have hi2 : i = l.length := by simp at h; omega
   subst hi2
   have := ruleV_frame hq hk
   simpa [List.getElem_append, h3] using this
theorem rulesL_stop {α : Type} {rule : Rd → Rd × α} {halt : Rd → Bool} {k : Nat} {r : Rd} (h : halt r = true) : rulesL rule halt (k + 1) r = (r, []) := by
 unfold rulesL; rw [h]; simp
theorem rulesL_step {α : Type} {rule : Rd → Rd × α} {halt : Rd → Bool} {k : Nat} {r : Rd} (hb : r.bad = false) (h : halt r = false) : rulesL rule halt (k + 1) r = ((rulesL rule halt k (rule r).1).1, (rule r).2 :: (rulesL rule halt k (rule r).1).2) := by
 conv => lhs; unfold rulesL
 rw [h, hb]; simp
theorem eight_new (w : World) (a0 a1 a2 a3 a4 a5 a6 a7 : Value) (t : TypeId) : ∀ j u, [a0, a1, a2, a3, a4, a5, a6, a7][j]? = some u → (w.alloc (.cells #[a0, a1, a2, a3, a4, a5, a6, a7] t)).cell? ((⟨w.heap.size, 0, none⟩ : Addr).add j) = some u := by
 intro j u h
 match j, h with
 | 0, h => simp at h; subst h; simp [go_sem, Addr.add]
 | 1, h => simp at h; subst h; simp [go_sem, Addr.add]
 | 2, h => simp at h; subst h; simp [go_sem, Addr.add]
 | 3, h => simp at h; subst h; simp [go_sem, Addr.add]
 | 4, h => simp at h; subst h; simp [go_sem, Addr.add]
 | 5, h => simp at h; subst h; simp [go_sem, Addr.add]
 | 6, h => simp at h; subst h; simp [go_sem, Addr.add]
 | 7, h => simp at h; subst h; simp [go_sem, Addr.add]
 | j + 8, h => simp at h
theorem eight_at (w : World) (g : Nat) (hg : g = w.heap.size) (a0 a1 a2 a3 a4 a5 a6 a7 : Value) (t : TypeId) : ∀ j u, [a0, a1, a2, a3, a4, a5, a6, a7][j]? = some u → (w.alloc (.cells #[a0, a1, a2, a3, a4, a5, a6, a7] t)).cell? ((⟨g, 0, none⟩ : Addr).add j) = some u := by
 subst hg
 exact eight_new w a0 a1 a2 a3 a4 a5 a6 a7 t
theorem But.grown {b : Nat} {w W w' : World} {row : Option Nat} (h : But b w W) (hg : W.grownBy w' row) (hr : ∀ k, row = some k → w.heap.size ≤ k) : But b w w' := by
 obtain ⟨h1, h2, h3, h4, h5⟩ := h
 obtain ⟨k1, k2, k3, k4, k5⟩ := hg
 refine ⟨k1.trans h1, k2.trans h2, k3.trans h3, by omega, fun k hk hne => ?_⟩
 rw [k5 k (by omega) (fun e => by have := hr k e.symm; omega)]
 exact h5 k hk hne
theorem making_len {n : Nat} {w : World} {B : Nat} {v : Value} {l : List (RT (n + 1))} (h : Making n w B v l) : lenOfS v = l.length := by
 obtain ⟨xs, h1, _⟩ := h
 rcases Joins.ownsRow_forms h1 with ⟨rfl, e⟩ | ⟨g, cap, rfl⟩
 ·rw [e]; rfl
 ·rfl
theorem making_append {n : Nat} {w w3 W w4 : World} {b : Nat} {s : ByteArray} {r : Rd} {v v' : Value} {l : List (RT (n + 1))} {q : RT (n + 1)} {cs : List Value} {o1 o2 : Obj} (hW : W = (w3.alloc o1).alloc o2)
  (hb : b < w.heap.size) (hB : But b w w3) (hr : ReaderAt w3 b s r nilS) {xs : List (List Value)} (m1 : w3.ownsRow 0 149 8 v l.length xs.flatten) (m2 : ∀ k, v.ownBlock = some k → w.heap.size ≤ k) (m3 : xs.length = l.length)
  (m4 : ∀ i (h : i < l.length) (h' : i < xs.length), RuleV n w3 (fun k => w.heap.size ≤ k ∧ some k ≠ v.ownBlock) xs[i] l[i])
  (hq : RuleV n w3 (fun k => w.heap.size ≤ k ∧ some k ≠ v.ownBlock) cs q)
  (ho : w4.ownsRow 0 149 8 v' (l.length + 1) (xs.flatten ++ cs)) (hg : W.grownBy w4 v.ownBlock) (hf0 : v'.ownBlock = v.ownBlock ∨ ∃ g, v'.ownBlock = some g ∧ w3.heap.size + 1 + 1 ≤ g) :
  Making n w4 w.heap.size v' (l ++ [q]) ∧ ReaderAt w4 b s r nilS ∧ But b w w4 := by
 subst hW
 have hsz := hB.size
 have hf : v'.ownBlock = v.ownBlock ∨ ∃ g, v'.ownBlock = some g ∧ ((w3.alloc o1).alloc o2).heap.size ≤ g := by
  rcases hf0 with e | ⟨g, e, hge⟩
  ·exact .inl e
  ·exact .inr ⟨g, e, by simp; omega⟩
 have hk : ∀ k, (w.heap.size ≤ k ∧ some k ≠ v.ownBlock) → k < w3.heap.size → (w.heap.size ≤ k ∧ some k ≠ v.ownBlock) ∧ ((w3.alloc o1).alloc o2).heap[k]? = w3.heap[k]? := by
  intro k h1 hl
  refine ⟨h1, ?_⟩
  rw [Below.heap_alloc _ _ _ (by simp; omega), Below.heap_alloc _ _ _ hl]
 refine ⟨making_more (w := (w3.alloc o1).alloc o2) (by simp; omega) (fun k e => ⟨m2 k e, by have := (m1.lt k e).2; simp; omega⟩) m3 (fun i h h' => ruleV_frame (m4 i h h') hk) (ruleV_frame hq hk) ho hg hf, ?_, ?_⟩
 ·refine readerAt_grown (readerAt_alloc (readerAt_alloc hr _) _) hg ?_
  intro e
  have := m2 b e.symm
  omega
 ·exact But.grown ((hB.alloc _).alloc _) hg m2
set_option maxRecDepth 100000 in
set_option maxHeartbeats 1000000 in
theorem block_succ (s : ByteArray) (hs : s.size ≤ 400) (n : Nat) (hB : BlkCalls s n) : BlkCalls s (n + 1) := by
 intro b r w h f hn
 have hsl : s.data.toList.length = s.size := by simp
 have d0 := f.d0
 have d8 := f.d8
 have p0 : r.pos ≤ s.size := by have := f.le; omega
 have hb : b < w.heap.size := World.block_lt_of_cell? w _ h.c0
 obtain ⟨o1, o2, o3, o4, o5⟩ := opening_facts (t := s.data.toList) 123 f.le
 obtain ⟨iR, hiR, hzR, hsR, hbR⟩ := parts_of_info infoRule
 show Calls _ _ _ _ fun e w' => ∃ v, e = .returned v ∧ RulesV (n + 1) w' _ v (blockU s.data.toList (fun r => ruleF s.data.toList n r) r).2 ∧ ReaderAt w' b s (blockU s.data.toList (fun r => ruleF s.data.toList n r) r).1 nilS ∧ But b w w'
 unfold blockU
 simp only
 generalize hR : rulesL (fun r => ruleF s.data.toList n r) (fun r => r.seesOne s.data.toList 125 125) (s.data.toList.length + 1) (r.opening s.data.toList 123) = R
 generalize hO : r.opening s.data.toList 123 = ro at *
 have HO : Hid (r.opening s.data.toList 123 = ro) := hO
 have HR : Hid (rulesL (fun r => ruleF s.data.toList n r) (fun r => r.seesOne s.data.toList 125 125) (s.data.toList.length + 1) ro = R) := hR
 have HB : Hid (BlkCalls s n) := hB
 have HH : Hid (ReaderAt w b s r nilS) := h
 have HO5 : Hid (8 ≤ r.depth → ro.bad = true) := o5
 clear hR hO hB h o4 o5
 go_enter Tryz.func184, Tryz.ntmps184
 go_wp2_with fail
 refine (opening_any b s r nilS 123 _ HH.out hs p0 (by omega) (by omega)).mono ?_
 rw [HO.out]
 rintro e w1 ⟨rfl, hr1, hb1⟩
 go_wp2_with fail
 go_loopw [3] (fun x w' => ∃ (j : Nat) (r' : Rd) (l : List (RT (n + 1))) (v : Value), v = x ∧ Hid (ReaderAt w' b s r' nilS) ∧ Hid (But b w w') ∧ Hid (Making n w' w.heap.size v l) ∧ r'.pos ≤ s.data.toList.length ∧ r'.depth = r.depth + 1 ∧ Hid (8 ≤ r.depth → r'.bad = true) ∧ l.length + j = s.data.toList.length + 1 ∧ Hid (r'.bad = false → s.data.toList.length - r'.pos < j) ∧ Hid ((rulesL (fun r => ruleF s.data.toList n r) (fun r => r.seesOne s.data.toList 125 125) j r').1 = R.1 ∧ l ++ (rulesL (fun r => ruleF s.data.toList n r) (fun r => r.seesOne s.data.toList 125 125) j r').2 = R.2)) (fun x _ => 1000 - lenOfS x)
 case atStart => exact ⟨s.data.toList.length + 1, ro, [], _, rfl, hr1, hb1, making_nil _ _ _, o2, o3, HO5, by simp, fun _ => by omega, by show _ ∧ _; rw [HR.out]; exact ⟨rfl, rfl⟩⟩
 case round =>
  obtain ⟨j, r', l, v, rfl, HR', HB', HM, hp', hd', HD', hlj, HJ, HQ⟩ := hrel
  have hsz : w.heap.size ≤ wr.heap.size := HB'.out.size
  have hpp : r'.pos ≤ s.size := by omega
  obtain ⟨c0, c1, c2, c3, c4, fz⟩ := id HR'.out
  cases hbad : r'.bad
  ·have hj := HJ.out hbad
   obtain ⟨j', rfl⟩ : ∃ j', j = j' + 1 := ⟨j - 1, by omega⟩
   have hd7 : r.depth < 8 := by
    apply Decidable.byContradiction
    intro hc
    have := HD'.out (by omega)
    rw [hbad] at this
    cases this
   rw [hbad] at c4
   cases hse : r'.seesOne s.data.toList 125 125
   ·have hq := HQ.out
    rw [rulesL_step hbad hse] at hq
    simp only at hq
    go_wp2_with fail
    refine (sees_but b s r' nilS 125 _ HR'.out hs hpp).mono ?_
    rw [hse]
    rintro e w2 ⟨rfl, hr2, hb2⟩
    have fb : FitB s.data.toList r' := ⟨hp', by omega, by omega⟩
    have hst := ruleF_stp s.data.toList n fb
    have HM2 : Hid (Making n w2 w.heap.size v l) := making_but HM.out hb2 hb
    have HB2 : Hid (But b w w2) := HB'.out.trans hb2
    clear HM HB' c0 c1 c2 c3 c4 fz hb2
    go_wp2_with fail
    refine (rule_rd s hs b r' _ hr2 fb n HB.out (by omega)).mono ?_
    rintro e w3 ⟨cs, rfl, hru, hr3, hb3⟩
    generalize hz : ruleF s.data.toList n r' = z at *
    clear hz hr2
    obtain ⟨z1, rule⟩ := z
    simp only at hru hr3 hst hq
    have hsz2 : w2.heap.size ≤ w3.heap.size := hb3.size
    have hsz2b := HB2.out.size
    have hbw3 : b < w3.heap.size := by omega
    have HM3 : Hid (Making n w3 w.heap.size v l) := making_but HM2.out hb3 hb
    have HB3 : Hid (But b w w3) := HB2.out.trans hb3
    obtain ⟨xs, m1, m2, m3, m4⟩ := HM3.out
    have hown2 : ∀ k, v.ownBlock = some k → k < w2.heap.size := by
     obtain ⟨ys, y1, _⟩ := HM2.out
     exact fun k e => (y1.lt k e).2
    have hru2 : RuleV n w3 (fun k => w.heap.size ≤ k ∧ some k ≠ v.ownBlock) cs rule := ruleV_frame hru (fun k hk _ => ⟨⟨by omega, fun e => by have := hown2 k e.symm; omega⟩, rfl⟩)
    have HRU : Hid _ := hru2
    obtain ⟨ve, va, vb, hcs, hpe, hra, hrb⟩ := hru
    subst hcs
    obtain ⟨ae, ne, ce, hve⟩ : ∃ aa nn cc, ve = .slice aa nn cc := by
     rcases Joins.ownsRow_forms hpe.1 with ⟨rfl, _⟩ | ⟨g, cap, rfl⟩ <;> exact ⟨_, _, _, rfl⟩
    obtain ⟨aa, na, ca, hva⟩ := rulesV_form hra
    obtain ⟨ab, nb, cb, hvb⟩ := rulesV_form hrb
    subst hve hva hvb
    clear hpe hra hrb hb3 HM2 HB2 hru2
    have HQ2 : Hid _ := hq
    have HST : Hid _ := hst
    have HR3 : Hid _ := hr3
    obtain ⟨c0, c1, c2, c3, c4, fz⟩ := hr3
    have M1 : Hid (w3.ownsRow 0 149 8 v l.length xs.flatten) := m1
    have M2 : Hid (∀ k, v.ownBlock = some k → w.heap.size ≤ k) := m2
    have M4 : Hid _ := m4
    clear m1 m2 m4 hq hst
    simp only [coreV, List.cons_append, List.nil_append]
    go_wp2_with (at_builtin; refine wpList_append_fresh rfl (.tmp 19) (.tmp 21) 66 rfl 0 149 iR (.agg #[.int .i64 0, .int .i64 0, .int .i64 0, .int .i64 0, .int .i64 0, .slice none 0 0, .slice none 0 0, .slice none 0 0]) 8 112 Tryz.underlying66 hiR hzR hsR hbR rfl (by decide) v l.length xs.flatten (by rfl) (by exact (M1.out.alloc _).alloc _) ⟨w3.heap.size + 1, 0, none⟩ 1 1 [.int .i64 rule.1.kind, .int .i64 rule.1.place, .int .i64 rule.1.name, .int .i64 rule.1.label, .int .i64 rule.1.count, .slice ae ne ce, .slice aa na ca, .slice ab nb cb] (by rfl) rfl (by exact eight_at _ _ (by simp) _ _ _ _ _ _ _ _ 149) (by intro q hq; simp at hq; rcases hq with rfl | rfl | rfl | rfl | rfl | rfl | rfl | rfl <;> rfl) (by unfold maxLen; omega) (by omega) (Nat.zero_le _) (by decide) ?nxt)
    case nxt =>
     intro v' w4 hown hgrow hfr
     obtain ⟨mk, hr4, hb4⟩ := making_append rfl hb HB3.out HR3.out M1.out M2.out m3 M4.out HRU.out hown hgrow hfr
     have HM4 : Hid _ := mk
     have hlv := making_len HM3.out
     have hlv4 := making_len mk
     obtain ⟨g, cap, hv'⟩ := Joins.ownsRow_form hown (by omega)
     subst hv'
     have HR4 : Hid _ := hr4
     have HB4 : Hid _ := hb4
     clear c0 c1 c2 c3 c4 fz hgrow hfr hown hr4 hb4 mk
     go_wp2_with fail
     go_roundw
     case rel =>
      refine ⟨j', z1, l ++ [rule], _, rfl, HR4, HB4, HM4, HST.out.1.le, by rw [HST.out.1.depth]; exact hd', fun h8 => by omega, by simp; omega, fun hzb => ?_, ?_⟩
      ·have := HST.out.2
       have := HST.out.1.le
       rcases HST.out.2 with h5 | h5
       ·rw [hzb] at h5; cases h5
       ·omega
      ·have := HQ2.out
       exact ⟨this.1, by rw [List.append_assoc]; exact this.2⟩
     case measure =>
      rw [hlv]
      simp only [lenOfS]
      omega
   ·have hq := HQ.out
    rw [rulesL_stop (rule := fun r => ruleF s.data.toList n r) (halt := fun r => r.seesOne s.data.toList 125 125) hse] at hq
    simp only [List.append_nil] at hq
    have HQ2 : Hid _ := hq
    clear hq
    go_wp2_with fail
    refine (sees_but b s r' nilS 125 _ HR'.out hs hpp).mono ?_
    rw [hse]
    rintro e w2 ⟨rfl, hr2, hb2⟩
    have HM2 : Hid (Making n w2 w.heap.size v l) := making_but HM.out hb2 hb
    have HB2 : Hid (But b w w2) := HB'.out.trans hb2
    clear HM HB' c0 c1 c2 c3 c4 fz hb2
    go_wp2_with fail
    refine (closing_any b s r' nilS 125 _ hr2 hs hpp (by omega) (by omega)).mono ?_
    rintro e w3 ⟨rfl, hr3, hb3⟩
    go_wp2_with fail
    go_ret
    refine ⟨v, rfl, ?_, ?_, HB2.out.trans hb3⟩
    ·rw [← HQ2.out.2]
     exact making_done (making_but HM2.out hb3 hb)
    ·rw [← HQ2.out.1]
     exact hr3
  ·have hq := HQ.out
   rw [rulesL_bad hbad] at hq
   simp only [List.append_nil] at hq
   have HQ2 : Hid _ := hq
   rw [hbad] at c4
   clear hq
   go_wp2_with fail
   refine (closing_any b s r' nilS 125 _ HR'.out hs hpp (by omega) (by omega)).mono ?_
   rintro e w3 ⟨rfl, hr3, hb3⟩
   go_wp2_with fail
   go_ret
   refine ⟨v, rfl, ?_, ?_, HB'.out.trans hb3⟩
   ·rw [← HQ2.out.2]
    exact making_done (making_but HM.out hb3 hb)
   ·rw [← HQ2.out.1]
    exact hr3
end Go.Proofs.YtdgmoiflahoihaaGreatDoor
namespace Go.Proofs.YtdgmoiflahoihaaGreatDoor
open Go.RowKit
set_option linter.unusedSimpArgs false
set_option linter.unusedVariables false
set_option maxHeartbeats 1000000 in
theorem block_zero (s : ByteArray) (hs : s.size ≤ 400) : BlkCalls s 0 := by
 intro b r w h f hn
 have hsl : s.data.toList.length = s.size := by simp
 have d0 := f.d0
 have d8 := f.d8
 have p0 : r.pos ≤ s.size := by have := f.le; omega
 have hb : b < w.heap.size := World.block_lt_of_cell? w _ h.c0
 obtain ⟨o1, o2, o3, o4, o5⟩ := opening_facts (t := s.data.toList) 123 f.le
 show Calls _ _ _ _ fun e w' => ∃ v, e = .returned v ∧ RulesV 0 w' _ v _ ∧ ReaderAt w' b s ((r.opening s.data.toList 123).closing s.data.toList 125) nilS ∧ But b w w'
 generalize hO : r.opening s.data.toList 123 = ro at *
 have HO : Hid (r.opening s.data.toList 123 = ro) := hO
 have hbad : ro.bad = true := o5 (by omega)
 have HH : Hid (ReaderAt w b s r nilS) := h
 have hpp : ro.pos ≤ s.size := by omega
 clear hO h o4 o5
 go_enter Tryz.func184, Tryz.ntmps184
 go_wp2_with fail
 refine (opening_any b s r nilS 123 _ HH.out hs p0 (by omega) (by omega)).mono ?_
 rw [HO.out]
 rintro e w1 ⟨rfl, hr1, hb1⟩
 go_wp2_with fail
 go_loopw [3] (fun x w' => x = nilS ∧ w' = w1) (fun x _ => 0)
 case atStart => exact ⟨rfl, rfl⟩
 case round =>
  obtain ⟨rfl, rfl⟩ := hrel
  have HR1 : Hid _ := hr1
  obtain ⟨c0, c1, c2, c3, c4, fz⟩ := hr1
  rw [hbad] at c4
  go_wp2_with fail
  refine (closing_any b s ro nilS 125 _ HR1.out hs hpp (by omega) (by omega)).mono ?_
  rintro e w3 ⟨rfl, hr3, hb3⟩
  go_wp2_with fail
  go_ret
  exact ⟨nilS, rfl, ⟨World.ownsRow_nil .., fun k e => (by cases e)⟩, hr3, hb1.trans hb3⟩
theorem block_all (s : ByteArray) (hs : s.size ≤ 400) : ∀ n, BlkCalls s n
 | 0 => block_zero s hs
 | n + 1 => block_succ s hs n (block_all s hs n)
theorem atEnd_but (b : Nat) (s : ByteArray) (r : Rd) (pv : Value) (w : World) (h : ReaderAt w b s r pv) (hs : s.size ≤ 400) (hp : r.pos ≤ s.size) :
  Calls Tryz.prog 119 #[.pointer (some ⟨b, 0, none⟩)] w fun e w' => e = .returned (.bool (decide (s.size ≤ r.pos))) ∧ ReaderAt w' b s r pv ∧ But b w w' := by
 refine (atEnd_any b s r pv w h hs hp).mono ?_
 rintro e w' ⟨rfl, n, rfl⟩
 exact ⟨rfl, h.drewN n, (But.refl b _).drewN n⟩
set_option maxRecDepth 100000 in
set_option maxHeartbeats 1000000 in
theorem topRules_any (s : ByteArray) (hs : s.size ≤ 400) (n b : Nat) (hn8 : n = 8) (r : Rd) (w : World) (h : ReaderAt w b s r nilS) (f : r.pos ≤ s.data.toList.length) (hd : r.depth = 0) :
  Calls Tryz.prog 83 #[.pointer (some ⟨b, 0, none⟩)] w fun e w' => ∃ v, e = .returned v ∧ RulesV (n + 1) w' (fun k => w.heap.size ≤ k) v (rulesL (fun r => ruleF s.data.toList n r) (fun r => decide (s.data.toList.length ≤ r.pos)) (s.data.toList.length + 1) r).2 ∧ ReaderAt w' b s (rulesL (fun r => ruleF s.data.toList n r) (fun r => decide (s.data.toList.length ≤ r.pos)) (s.data.toList.length + 1) r).1 nilS ∧ But b w w' := by
 have hsl : s.data.toList.length = s.size := by simp
 have p0 : r.pos ≤ s.size := by omega
 have hb : b < w.heap.size := World.block_lt_of_cell? w _ h.c0
 obtain ⟨iR, hiR, hzR, hsR, hbR⟩ := parts_of_info infoRule
 generalize hR : rulesL (fun r => ruleF s.data.toList n r) (fun r => decide (s.data.toList.length ≤ r.pos)) (s.data.toList.length + 1) r = R
 have HR : Hid (rulesL (fun r => ruleF s.data.toList n r) (fun r => decide (s.data.toList.length ≤ r.pos)) (s.data.toList.length + 1) r = R) := hR
 have HB : Hid (BlkCalls s n) := block_all s hs n
 have HH : Hid (ReaderAt w b s r nilS) := h
 clear hR h
 go_enter Tryz.func83, Tryz.ntmps83
 go_wp2_with fail
 go_loopw [3] (fun x w' => ∃ (j : Nat) (r' : Rd) (l : List (RT (n + 1))) (v : Value), v = x ∧ Hid (ReaderAt w' b s r' nilS) ∧ Hid (But b w w') ∧ Hid (Making n w' w.heap.size v l) ∧ r'.pos ≤ s.data.toList.length ∧ r'.depth = 0 ∧ l.length + j = s.data.toList.length + 1 ∧ Hid (r'.bad = false → s.data.toList.length - r'.pos < j) ∧ Hid ((rulesL (fun r => ruleF s.data.toList n r) (fun r => decide (s.data.toList.length ≤ r.pos)) j r').1 = R.1 ∧ l ++ (rulesL (fun r => ruleF s.data.toList n r) (fun r => decide (s.data.toList.length ≤ r.pos)) j r').2 = R.2)) (fun x _ => 1000 - lenOfS x)
 case atStart => exact ⟨s.data.toList.length + 1, r, [], nilS, rfl, HH, But.refl _ _, making_nil _ _ _, f, hd, by simp, fun _ => by omega, by show _ ∧ _; rw [HR.out]; exact ⟨rfl, rfl⟩⟩
 case round =>
  obtain ⟨j, r', l, v, rfl, HR', HB', HM, hp', hd', hlj, HJ, HQ⟩ := hrel
  have hsz : w.heap.size ≤ wr.heap.size := HB'.out.size
  have hpp : r'.pos ≤ s.size := by omega
  obtain ⟨c0, c1, c2, c3, c4, fz⟩ := id HR'.out
  cases hbad : r'.bad
  ·have hj := HJ.out hbad
   obtain ⟨j', rfl⟩ : ∃ j', j = j' + 1 := ⟨j - 1, by omega⟩
   rw [hbad] at c4
   cases hse : decide (s.data.toList.length ≤ r'.pos)
   ·have hq := HQ.out
    rw [rulesL_step hbad hse] at hq
    simp only at hq
    go_wp2_with fail
    refine (atEnd_but b s r' nilS _ HR'.out hs hpp).mono ?_
    rw [show decide (s.size ≤ r'.pos) = _ from hsl ▸ hse]
    rintro e w2 ⟨rfl, hr2, hb2⟩
    have fb : FitB s.data.toList r' := ⟨hp', by omega, by omega⟩
    have hst := ruleF_stp s.data.toList n fb
    have HM2 : Hid (Making n w2 w.heap.size v l) := making_but HM.out hb2 hb
    have HB2 : Hid (But b w w2) := HB'.out.trans hb2
    clear HM HB' c0 c1 c2 c3 c4 fz hb2
    go_wp2_with fail
    refine (rule_rd s hs b r' _ hr2 fb n HB.out (by omega)).mono ?_
    rintro e w3 ⟨cs, rfl, hru, hr3, hb3⟩
    generalize hz : ruleF s.data.toList n r' = z at *
    clear hz hr2
    obtain ⟨z1, rule⟩ := z
    simp only at hru hr3 hst hq
    have hsz2 : w2.heap.size ≤ w3.heap.size := hb3.size
    have hsz2b := HB2.out.size
    have hbw3 : b < w3.heap.size := by omega
    have HM3 : Hid (Making n w3 w.heap.size v l) := making_but HM2.out hb3 hb
    have HB3 : Hid (But b w w3) := HB2.out.trans hb3
    obtain ⟨xs, m1, m2, m3, m4⟩ := HM3.out
    have hown2 : ∀ k, v.ownBlock = some k → k < w2.heap.size := by
     obtain ⟨ys, y1, _⟩ := HM2.out
     exact fun k e => (y1.lt k e).2
    have hru2 : RuleV n w3 (fun k => w.heap.size ≤ k ∧ some k ≠ v.ownBlock) cs rule := ruleV_frame hru (fun k hk _ => ⟨⟨by omega, fun e => by have := hown2 k e.symm; omega⟩, rfl⟩)
    have HRU : Hid _ := hru2
    obtain ⟨ve, va, vb, hcs, hpe, hra, hrb⟩ := hru
    subst hcs
    obtain ⟨ae, ne, ce, hve⟩ : ∃ aa nn cc, ve = .slice aa nn cc := by
     rcases Joins.ownsRow_forms hpe.1 with ⟨rfl, _⟩ | ⟨g, cap, rfl⟩ <;> exact ⟨_, _, _, rfl⟩
    obtain ⟨aa, na, ca, hva⟩ := rulesV_form hra
    obtain ⟨ab, nb, cb, hvb⟩ := rulesV_form hrb
    subst hve hva hvb
    clear hpe hra hrb hb3 HM2 HB2 hru2
    have HQ2 : Hid _ := hq
    have HST : Hid _ := hst
    have HR3 : Hid _ := hr3
    obtain ⟨c0, c1, c2, c3, c4, fz⟩ := hr3
    have M1 : Hid (w3.ownsRow 0 149 8 v l.length xs.flatten) := m1
    have M2 : Hid (∀ k, v.ownBlock = some k → w.heap.size ≤ k) := m2
    have M4 : Hid _ := m4
    clear m1 m2 m4 hq hst
    simp only [coreV, List.cons_append, List.nil_append]
    go_wp2_with (at_builtin; refine wpList_append_fresh rfl (.tmp 17) (.tmp 19) 66 rfl 0 149 iR (.agg #[.int .i64 0, .int .i64 0, .int .i64 0, .int .i64 0, .int .i64 0, .slice none 0 0, .slice none 0 0, .slice none 0 0]) 8 112 Tryz.underlying66 hiR hzR hsR hbR rfl (by decide) v l.length xs.flatten (by rfl) (by exact (M1.out.alloc _).alloc _) ⟨w3.heap.size + 1, 0, none⟩ 1 1 [.int .i64 rule.1.kind, .int .i64 rule.1.place, .int .i64 rule.1.name, .int .i64 rule.1.label, .int .i64 rule.1.count, .slice ae ne ce, .slice aa na ca, .slice ab nb cb] (by rfl) rfl (by exact eight_at _ _ (by simp) _ _ _ _ _ _ _ _ 149) (by intro q hq; simp at hq; rcases hq with rfl | rfl | rfl | rfl | rfl | rfl | rfl | rfl <;> rfl) (by unfold maxLen; omega) (by omega) (Nat.zero_le _) (by decide) ?nxt)
    case nxt =>
     intro v' w4 hown hgrow hfr
     obtain ⟨mk, hr4, hb4⟩ := making_append rfl hb HB3.out HR3.out M1.out M2.out m3 M4.out HRU.out hown hgrow hfr
     have HM4 : Hid _ := mk
     have hlv := making_len HM3.out
     have hlv4 := making_len mk
     obtain ⟨g, cap, hv'⟩ := Joins.ownsRow_form hown (by omega)
     subst hv'
     have HR4 : Hid _ := hr4
     have HB4 : Hid _ := hb4
     clear c0 c1 c2 c3 c4 fz hgrow hfr hown hr4 hb4 mk
     go_wp2_with fail
     go_roundw
     case rel =>
      refine ⟨j', z1, l ++ [rule], _, rfl, HR4, HB4, HM4, HST.out.1.le, by rw [HST.out.1.depth]; exact hd', by simp; omega, fun hzb => ?_, ?_⟩
      ·have := HST.out.2
       have := HST.out.1.le
       rcases HST.out.2 with h5 | h5
       ·rw [hzb] at h5; cases h5
       ·omega
      ·have := HQ2.out
       exact ⟨this.1, by rw [List.append_assoc]; exact this.2⟩
     case measure =>
      rw [hlv]
      simp only [lenOfS]
      omega
   ·have hq := HQ.out
    rw [rulesL_stop (rule := fun r => ruleF s.data.toList n r) (halt := fun r => decide (s.data.toList.length ≤ r.pos)) hse] at hq
    simp only [List.append_nil] at hq
    have HQ2 : Hid _ := hq
    clear hq
    go_wp2_with fail
    refine (atEnd_but b s r' nilS _ HR'.out hs hpp).mono ?_
    rw [show decide (s.size ≤ r'.pos) = _ from hsl ▸ hse]
    rintro e w2 ⟨rfl, hr2, hb2⟩
    have HM2 : Hid (Making n w2 w.heap.size v l) := making_but HM.out hb2 hb
    have HB2 : Hid (But b w w2) := HB'.out.trans hb2
    clear HM HB' c0 c1 c2 c3 c4 fz hb2
    go_wp2_with fail
    go_ret
    refine ⟨v, rfl, ?_, ?_, HB2.out⟩
    ·rw [← HQ2.out.2]
     exact making_done HM2.out
    ·rw [← HQ2.out.1]
     exact hr2
  ·have hq := HQ.out
   rw [rulesL_bad hbad] at hq
   simp only [List.append_nil] at hq
   have HQ2 : Hid _ := hq
   rw [hbad] at c4
   clear hq
   go_wp2_with fail
   go_ret
   refine ⟨v, rfl, ?_, ?_, HB'.out⟩
   ·rw [← HQ2.out.2]
    exact making_done HM.out
   ·rw [← HQ2.out.1]
    exact HR'.out
end Go.Proofs.YtdgmoiflahoihaaGreatDoor
namespace Go.Proofs.YtdgmoiflahoihaaGreatDoor
open Go.RowKit
set_option linter.unusedSimpArgs false
set_option linter.unusedVariables false
structure Hd where
 field : Bool
 place : Nat
 name : Int
 label : Nat
def hdV (h : Hd) : List Value := [.bool h.field, .int .i64 h.place, .int .i64 h.name, .int .i64 h.label]
def hdCells (l : List Hd) : List Value := l.flatMap hdV
theorem hdCells_app (l r : List Hd) : hdCells (l ++ r) = hdCells l ++ hdCells r := by simp [hdCells]
def headO (t : List UInt8) (r : Rd) : Rd := if r.seesOne t 63 63 then (r.takeOne t 63 63).1 else (r.takeOne t 33 33).1
def headU (t : List UInt8) (r : Rd) : Rd × Hd :=
 let nm := (headO t r).takeOne t 97 122
 let lb := (nm.1.takeOne t 58 58).1.label t
 ((lb.1.takeOne t 59 59).1, ⟨r.seesOne t 63 63, (headO t r).pos, nm.2, lb.2⟩)
def headsL (t : List UInt8) : Nat → Rd → Rd × List Hd
 | 0, r => (r, [])
 | k + 1, r => if r.seesOne t 63 63 || r.seesOne t 33 33 then ((headsL t k (headU t r).1).1, (headU t r).2 :: (headsL t k (headU t r).1).2) else (r, [])
theorem headO_stp {t : List UInt8} {r : Rd} (h : r.pos ≤ t.length) : Stp t r (headO t r) := by
 unfold headO
 split
 ·exact takeOne_stp _ _ h
 ·exact takeOne_stp _ _ h
theorem headU_stp {t : List UInt8} {r : Rd} (h : r.pos ≤ t.length) : Stp t r (headU t r).1 := by
 unfold headU
 have a := headO_stp h
 have b := a.trans (takeOne_stp 97 122 a.le)
 have c := b.trans (takeOne_stp 58 58 b.le)
 have d := c.trans (label_stp c.le)
 exact d.trans (takeOne_stp 59 59 d.le)
theorem headU_gt {t : List UInt8} {r : Rd} (hs : (r.seesOne t 63 63 || r.seesOne t 33 33) = true) : r.pos < (headU t r).1.pos := by
 have hlt : r.pos < t.length := by
  rcases Bool.or_eq_true_iff.mp hs with h | h <;> exact (sees_lt h).1
 have a := headO_stp (t := t) (r := r) (Nat.le_of_lt hlt)
 have b := takeOne_stp 97 122 a.le
 have c := b.trans (takeOne_stp 58 58 b.le)
 have d := c.trans (label_stp c.le)
 have e := d.trans (takeOne_stp 59 59 d.le)
 have g : r.pos + 1 ≤ (headO t r).pos := by
  unfold headO
  split
  ·rename_i h; exact takeOne_gt h
  ·rename_i h
   rcases Bool.or_eq_true_iff.mp hs with h2 | h2
   ·exact absurd h2 h
   ·exact takeOne_gt h2
 have := e.pos
 show r.pos < (Rd.takeOne t _ 59 59).1.pos
 omega
theorem headsL_stp {t : List UInt8} : ∀ (k : Nat) (r : Rd), r.pos ≤ t.length → Stp t r (headsL t k r).1
 | 0, r, h => stp_refl h
 | k + 1, r, h => by
  unfold headsL
  split
  ·have a := headU_stp h
   exact a.trans (headsL_stp k _ a.le)
  ·exact stp_refl h
structure LocH (W w : World) (b : Nat) (s : ByteArray) (r : Rd) (v0 v1 v2 v3 : Value) : Prop where
 rd : ReaderAt W b s r nilS
 g0 : W.cell? ⟨w.heap.size + 1, 0, none⟩ = some v0
 g1 : W.cell? ⟨w.heap.size + 1, 1, none⟩ = some v1
 g2 : W.cell? ⟨w.heap.size + 1, 2, none⟩ = some v2
 g3 : W.cell? ⟨w.heap.size + 1, 3, none⟩ = some v3
 gf : ∀ o, W.frozen? ⟨w.heap.size + 1, o, none⟩ = false
 h0 : W.cell? ⟨w.heap.size, 0, none⟩ = some (.bool false)
 h1 : W.cell? ⟨w.heap.size, 1, none⟩ = some (.int .i64 0)
 h2 : W.cell? ⟨w.heap.size, 2, none⟩ = some (.int .i64 0)
 h3 : W.cell? ⟨w.heap.size, 3, none⟩ = some (.int .i64 0)
 hf : ∀ o, W.frozen? ⟨w.heap.size, o, none⟩ = false
 but : But b w W
 size : w.heap.size + 2 ≤ W.heap.size
 lt : b < w.heap.size
theorem locH_start {w : World} {b : Nat} {s : ByteArray} {r : Rd} (h : ReaderAt w b s r nilS) (t t' : TypeId) (v0 v1 v2 v3 : Value) : LocH ((w.alloc (.cells #[.bool false, .int .i64 0, .int .i64 0, .int .i64 0] t)).alloc (.cells #[v0, v1, v2, v3] t')) w b s r v0 v1 v2 v3 := by
 have hb : b < w.heap.size := World.block_lt_of_cell? w _ h.c0
 refine ⟨readerAt_alloc (readerAt_alloc h _) _, ?_, ?_, ?_, ?_, fun o => ?_, ?_, ?_, ?_, ?_, fun o => ?_, ((But.refl b w).alloc _).alloc _, by simp, hb⟩
 all_goals simp [go_sem]
theorem LocH.call {W W' w : World} {b : Nat} {s : ByteArray} {r r' : Rd} {v0 v1 v2 v3 : Value} (L : LocH W w b s r v0 v1 v2 v3) (hr : ReaderAt W' b s r' nilS) (hb : But b W W') : LocH W' w b s r' v0 v1 v2 v3 := by
 have hs := L.size
 have hl := L.lt
 have k1 : W'.heap[w.heap.size + 1]? = W.heap[w.heap.size + 1]? := hb.block _ (by omega) (fun e => by cases e; omega)
 have k0 : W'.heap[w.heap.size]? = W.heap[w.heap.size]? := hb.block _ (by omega) (fun e => by cases e; omega)
 exact ⟨hr, (World.cell?_of_block (a := ⟨w.heap.size + 1, 0, none⟩) k1).trans L.g0, (World.cell?_of_block (a := ⟨w.heap.size + 1, 1, none⟩) k1).trans L.g1, (World.cell?_of_block (a := ⟨w.heap.size + 1, 2, none⟩) k1).trans L.g2, (World.cell?_of_block (a := ⟨w.heap.size + 1, 3, none⟩) k1).trans L.g3, fun o => (World.frozen?_of_block (a := ⟨w.heap.size + 1, o, none⟩) k1).trans (L.gf o), (World.cell?_of_block (a := ⟨w.heap.size, 0, none⟩) k0).trans L.h0, (World.cell?_of_block (a := ⟨w.heap.size, 1, none⟩) k0).trans L.h1, (World.cell?_of_block (a := ⟨w.heap.size, 2, none⟩) k0).trans L.h2, (World.cell?_of_block (a := ⟨w.heap.size, 3, none⟩) k0).trans L.h3, fun o => (World.frozen?_of_block (a := ⟨w.heap.size, o, none⟩) k0).trans (L.hf o), L.but.trans hb, Nat.le_trans hs hb.size, hl⟩
theorem LocH.set0 {W w : World} {b : Nat} {s : ByteArray} {r : Rd} {v0 v1 v2 v3 : Value} (L : LocH W w b s r v0 v1 v2 v3) (u : Value) : LocH (W.setCell ⟨w.heap.size + 1, 0, none⟩ u) w b s r u v1 v2 v3 := by
 obtain ⟨rd, g0, g1, g2, g3, gf, h0, h1, h2, h3, hf, but, size, lt⟩ := L
 refine ⟨readerAt_set rd _ _ (by simp only; omega), ?_, ?_, ?_, ?_, fun o => ?_, ?_, ?_, ?_, ?_, fun o => ?_, but.setNew _ _ (by simp), by simpa using size, lt⟩
 all_goals simp [go_sem, g0, g1, g2, g3, gf, h0, h1, h2, h3, hf]
theorem LocH.set1 {W w : World} {b : Nat} {s : ByteArray} {r : Rd} {v0 v1 v2 v3 : Value} (L : LocH W w b s r v0 v1 v2 v3) (u : Value) : LocH (W.setCell ⟨w.heap.size + 1, 1, none⟩ u) w b s r v0 u v2 v3 := by
 obtain ⟨rd, g0, g1, g2, g3, gf, h0, h1, h2, h3, hf, but, size, lt⟩ := L
 refine ⟨readerAt_set rd _ _ (by simp only; omega), ?_, ?_, ?_, ?_, fun o => ?_, ?_, ?_, ?_, ?_, fun o => ?_, but.setNew _ _ (by simp), by simpa using size, lt⟩
 all_goals simp [go_sem, g0, g1, g2, g3, gf, h0, h1, h2, h3, hf]
theorem LocH.set2 {W w : World} {b : Nat} {s : ByteArray} {r : Rd} {v0 v1 v2 v3 : Value} (L : LocH W w b s r v0 v1 v2 v3) (u : Value) : LocH (W.setCell ⟨w.heap.size + 1, 2, none⟩ u) w b s r v0 v1 u v3 := by
 obtain ⟨rd, g0, g1, g2, g3, gf, h0, h1, h2, h3, hf, but, size, lt⟩ := L
 refine ⟨readerAt_set rd _ _ (by simp only; omega), ?_, ?_, ?_, ?_, fun o => ?_, ?_, ?_, ?_, ?_, fun o => ?_, but.setNew _ _ (by simp), by simpa using size, lt⟩
 all_goals simp [go_sem, g0, g1, g2, g3, gf, h0, h1, h2, h3, hf]
theorem LocH.set3 {W w : World} {b : Nat} {s : ByteArray} {r : Rd} {v0 v1 v2 v3 : Value} (L : LocH W w b s r v0 v1 v2 v3) (u : Value) : LocH (W.setCell ⟨w.heap.size + 1, 3, none⟩ u) w b s r v0 v1 v2 u := by
 obtain ⟨rd, g0, g1, g2, g3, gf, h0, h1, h2, h3, hf, but, size, lt⟩ := L
 refine ⟨readerAt_set rd _ _ (by simp only; omega), ?_, ?_, ?_, ?_, fun o => ?_, ?_, ?_, ?_, ?_, fun o => ?_, but.setNew _ _ (by simp), by simpa using size, lt⟩
 all_goals simp [go_sem, g0, g1, g2, g3, gf, h0, h1, h2, h3, hf]
theorem locH_end {W w : World} {b : Nat} {s : ByteArray} {r : Rd} {v0 v1 v2 v3 : Value} (L : LocH W w b s r v0 v1 v2 v3) (u0 u1 u2 u3 : Value) : ReaderAt (((((W).setCell ⟨w.heap.size, 0, none⟩ u0).setCell ⟨w.heap.size, 1, none⟩ u1).setCell ⟨w.heap.size, 2, none⟩ u2).setCell ⟨w.heap.size, 3, none⟩ u3) b s r nilS ∧ But b w (((((W).setCell ⟨w.heap.size, 0, none⟩ u0).setCell ⟨w.heap.size, 1, none⟩ u1).setCell ⟨w.heap.size, 2, none⟩ u2).setCell ⟨w.heap.size, 3, none⟩ u3) := by
 have hl := L.lt
 refine ⟨?_, ?_⟩
 ·repeat (refine readerAt_set ?_ _ _ (by simp only; omega))
  exact L.rd
 ·repeat (refine But.setNew ?_ _ _ (by simp))
  exact L.but
set_option maxHeartbeats 1000000 in
theorem head_field (s : ByteArray) (hs : s.size ≤ 400) (b : Nat) (r : Rd) (w : World) (h : ReaderAt w b s r nilS) (hp : r.pos ≤ s.data.toList.length) (t0 : r.seesOne s.data.toList 63 63 = true) :
  Calls Tryz.prog 118 #[.pointer (some ⟨b, 0, none⟩)] w fun e w' => e = .returned (.agg (hdV (headU s.data.toList r).2).toArray) ∧ ReaderAt w' b s (headU s.data.toList r).1 nilS ∧ But b w w' := by
 have hsl : s.data.toList.length = s.size := by simp
 have a1 := headO_stp hp
 have a2 := takeOne_stp 97 122 a1.le
 have a3 := takeOne_stp 58 58 a2.le
 have a4 := label_stp a3.le
 have p0 : r.pos ≤ s.size := by omega
 unfold headU
 simp only [hdV, t0]
 have hO : headO s.data.toList r = (r.takeOne s.data.toList 63 63).1 := by unfold headO; rw [if_pos t0]
 rw [hO] at a1 a2 a3 a4 ⊢
 clear hO
 generalize hh_r1 : (r.takeOne s.data.toList 63 63).1 = r1 at *
 have H_r1 : Hid ((r.takeOne s.data.toList 63 63).1 = r1) := hh_r1
 clear hh_r1
 generalize hh_q2 : r1.takeOne s.data.toList 97 122 = q2 at *
 have H_q2 : Hid (r1.takeOne s.data.toList 97 122 = q2) := hh_q2
 clear hh_q2
 generalize hh_r3 : (q2.1.takeOne s.data.toList 58 58).1 = r3 at *
 have H_r3 : Hid ((q2.1.takeOne s.data.toList 58 58).1 = r3) := hh_r3
 clear hh_r3
 generalize hh_q4 : r3.label s.data.toList = q4 at *
 have H_q4 : Hid (r3.label s.data.toList = q4) := hh_q4
 clear hh_q4
 have p1 : r1.pos ≤ s.size := by have := a1.le; omega
 have p2 : q2.1.pos ≤ s.size := by have := a2.le; omega
 have p3 : r3.pos ≤ s.size := by have := a3.le; omega
 have p4 : q4.1.pos ≤ s.size := by have := a4.le; omega
 have HH : Hid (ReaderAt w b s r nilS) := h
 have hb : b < w.heap.size := World.block_lt_of_cell? w _ h.c0
 have hbn : ¬ b = w.heap.size := by omega
 have hbn1 : ¬ b = w.heap.size + 1 := by omega
 clear a1 a2 a3 a4 h
 go_enter Tryz.func118, Tryz.ntmps118
 go_wp2_with fail
 refine (sees_but b s r nilS 63 _ (locH_start HH.out _ _ _ _ _ _).rd hs p0).mono ?_
 rw [t0]
 rintro e w1 ⟨rfl, hr1, hb1⟩
 have L1 := (locH_start HH.out _ _ _ _ _ _).call hr1 hb1
 have HL1 : Hid _ := L1
 clear hr1 hb1
 obtain ⟨rd, g0, g1, g2, g3, gf, h0, h1, h2, h3, hf, but, size, lt⟩ := L1
 clear rd but
 go_wp2_with fail
 refine (take_any b s r nilS 63 _ (HL1.out.set0 _).rd hs p0).mono ?_
 rw [H_r1.out]
 rintro e w2 ⟨rfl, hr2, hb2⟩
 have L2 := (HL1.out.set0 _).call hr2 hb2
 have HL2 : Hid _ := L2
 clear HL1 g0 g1 g2 g3 gf h0 h1 h2 h3 hf size lt
 clear hr2 hb2
 obtain ⟨rd, g0, g1, g2, g3, gf, h0, h1, h2, h3, hf, but, size, lt⟩ := L2
 clear rd but
 obtain ⟨c0, c1, c2, c3, c4, fz⟩ := id HL2.out.rd
 go_wp2_with fail
 refine (takeName_any b s r1 nilS _ (HL2.out.set1 _).rd hs p1).mono ?_
 rw [H_q2.out]
 rintro e w3 ⟨rfl, hr3, hb3⟩
 have L3 := (HL2.out.set1 _).call hr3 hb3
 have HL3 : Hid _ := L3
 clear HL2 g0 g1 g2 g3 gf h0 h1 h2 h3 hf size lt
 clear hr3 hb3
 obtain ⟨rd, g0, g1, g2, g3, gf, h0, h1, h2, h3, hf, but, size, lt⟩ := L3
 clear rd but
 clear c0 c1 c2 c3 c4 fz
 go_wp2_with fail
 refine (take_any b s q2.1 nilS 58 _ (HL3.out.set2 _).rd hs p2).mono ?_
 rw [H_r3.out]
 rintro e w4 ⟨rfl, hr4, hb4⟩
 have L4 := (HL3.out.set2 _).call hr4 hb4
 have HL4 : Hid _ := L4
 clear HL3 g0 g1 g2 g3 gf h0 h1 h2 h3 hf size lt
 clear hr4 hb4
 obtain ⟨rd, g0, g1, g2, g3, gf, h0, h1, h2, h3, hf, but, size, lt⟩ := L4
 clear rd but
 go_wp2_with fail
 refine (label_rd b s r3 nilS _ HL4.out.rd hs p3).mono ?_
 rw [H_q4.out]
 rintro e w5 ⟨rfl, hr5, hb5⟩
 have L5 := HL4.out.call hr5 hb5
 have HL5 : Hid _ := L5
 clear HL4 g0 g1 g2 g3 gf h0 h1 h2 h3 hf size lt
 clear hr5 hb5
 obtain ⟨rd, g0, g1, g2, g3, gf, h0, h1, h2, h3, hf, but, size, lt⟩ := L5
 clear rd but
 go_wp2_with fail
 refine (take_any b s q4.1 nilS 59 _ (HL5.out.set3 _).rd hs p4).mono ?_
 rintro e w6 ⟨rfl, hr6, hb6⟩
 have L6 := (HL5.out.set3 _).call hr6 hb6
 have HL6 : Hid _ := L6
 clear HL5 g0 g1 g2 g3 gf h0 h1 h2 h3 hf size lt
 clear hr6 hb6
 obtain ⟨rd, g0, g1, g2, g3, gf, h0, h1, h2, h3, hf, but, size, lt⟩ := L6
 clear rd but
 go_wp2_with fail
 refine bodyPost_ret (v := .agg #[.bool true, .int .i64 r1.pos, .int .i64 q2.2, .int .i64 q4.2]) (by simp [results, Tryz.results118, go_sem, g0, g1, g2, g3, h0, h1, h2, h3, gf, hf]) rfl ?_
 obtain ⟨e1, e2⟩ := locH_end HL6.out (.bool true) (.int .i64 r1.pos) (.int .i64 q2.2) (.int .i64 q4.2)
 exact ⟨rfl, e1, e2⟩
set_option maxHeartbeats 1000000 in
theorem head_name (s : ByteArray) (hs : s.size ≤ 400) (b : Nat) (r : Rd) (w : World) (h : ReaderAt w b s r nilS) (hp : r.pos ≤ s.data.toList.length) (t0 : r.seesOne s.data.toList 63 63 = false) :
  Calls Tryz.prog 118 #[.pointer (some ⟨b, 0, none⟩)] w fun e w' => e = .returned (.agg (hdV (headU s.data.toList r).2).toArray) ∧ ReaderAt w' b s (headU s.data.toList r).1 nilS ∧ But b w w' := by
 have hsl : s.data.toList.length = s.size := by simp
 have a1 := headO_stp hp
 have a2 := takeOne_stp 97 122 a1.le
 have a3 := takeOne_stp 58 58 a2.le
 have a4 := label_stp a3.le
 have p0 : r.pos ≤ s.size := by omega
 unfold headU
 simp only [hdV, t0]
 have hO : headO s.data.toList r = (r.takeOne s.data.toList 33 33).1 := by unfold headO; rw [if_neg (by rw [t0]; decide)]
 rw [hO] at a1 a2 a3 a4 ⊢
 clear hO
 generalize hh_r1 : (r.takeOne s.data.toList 33 33).1 = r1 at *
 have H_r1 : Hid ((r.takeOne s.data.toList 33 33).1 = r1) := hh_r1
 clear hh_r1
 generalize hh_q2 : r1.takeOne s.data.toList 97 122 = q2 at *
 have H_q2 : Hid (r1.takeOne s.data.toList 97 122 = q2) := hh_q2
 clear hh_q2
 generalize hh_r3 : (q2.1.takeOne s.data.toList 58 58).1 = r3 at *
 have H_r3 : Hid ((q2.1.takeOne s.data.toList 58 58).1 = r3) := hh_r3
 clear hh_r3
 generalize hh_q4 : r3.label s.data.toList = q4 at *
 have H_q4 : Hid (r3.label s.data.toList = q4) := hh_q4
 clear hh_q4
 have p1 : r1.pos ≤ s.size := by have := a1.le; omega
 have p2 : q2.1.pos ≤ s.size := by have := a2.le; omega
 have p3 : r3.pos ≤ s.size := by have := a3.le; omega
 have p4 : q4.1.pos ≤ s.size := by have := a4.le; omega
 have HH : Hid (ReaderAt w b s r nilS) := h
 have hb : b < w.heap.size := World.block_lt_of_cell? w _ h.c0
 have hbn : ¬ b = w.heap.size := by omega
 have hbn1 : ¬ b = w.heap.size + 1 := by omega
 clear a1 a2 a3 a4 h
 go_enter Tryz.func118, Tryz.ntmps118
 go_wp2_with fail
 refine (sees_but b s r nilS 63 _ (locH_start HH.out _ _ _ _ _ _).rd hs p0).mono ?_
 rw [t0]
 rintro e w1 ⟨rfl, hr1, hb1⟩
 have L1 := (locH_start HH.out _ _ _ _ _ _).call hr1 hb1
 have HL1 : Hid _ := L1
 clear hr1 hb1
 obtain ⟨rd, g0, g1, g2, g3, gf, h0, h1, h2, h3, hf, but, size, lt⟩ := L1
 clear rd but
 go_wp2_with fail
 refine (take_any b s r nilS 33 _ (HL1.out.set0 _).rd hs p0).mono ?_
 rw [H_r1.out]
 rintro e w2 ⟨rfl, hr2, hb2⟩
 have L2 := (HL1.out.set0 _).call hr2 hb2
 have HL2 : Hid _ := L2
 clear HL1 g0 g1 g2 g3 gf h0 h1 h2 h3 hf size lt
 clear hr2 hb2
 obtain ⟨rd, g0, g1, g2, g3, gf, h0, h1, h2, h3, hf, but, size, lt⟩ := L2
 clear rd but
 obtain ⟨c0, c1, c2, c3, c4, fz⟩ := id HL2.out.rd
 go_wp2_with fail
 refine (takeName_any b s r1 nilS _ (HL2.out.set1 _).rd hs p1).mono ?_
 rw [H_q2.out]
 rintro e w3 ⟨rfl, hr3, hb3⟩
 have L3 := (HL2.out.set1 _).call hr3 hb3
 have HL3 : Hid _ := L3
 clear HL2 g0 g1 g2 g3 gf h0 h1 h2 h3 hf size lt
 clear hr3 hb3
 obtain ⟨rd, g0, g1, g2, g3, gf, h0, h1, h2, h3, hf, but, size, lt⟩ := L3
 clear rd but
 clear c0 c1 c2 c3 c4 fz
 go_wp2_with fail
 refine (take_any b s q2.1 nilS 58 _ (HL3.out.set2 _).rd hs p2).mono ?_
 rw [H_r3.out]
 rintro e w4 ⟨rfl, hr4, hb4⟩
 have L4 := (HL3.out.set2 _).call hr4 hb4
 have HL4 : Hid _ := L4
 clear HL3 g0 g1 g2 g3 gf h0 h1 h2 h3 hf size lt
 clear hr4 hb4
 obtain ⟨rd, g0, g1, g2, g3, gf, h0, h1, h2, h3, hf, but, size, lt⟩ := L4
 clear rd but
 go_wp2_with fail
 refine (label_rd b s r3 nilS _ HL4.out.rd hs p3).mono ?_
 rw [H_q4.out]
 rintro e w5 ⟨rfl, hr5, hb5⟩
 have L5 := HL4.out.call hr5 hb5
 have HL5 : Hid _ := L5
 clear HL4 g0 g1 g2 g3 gf h0 h1 h2 h3 hf size lt
 clear hr5 hb5
 obtain ⟨rd, g0, g1, g2, g3, gf, h0, h1, h2, h3, hf, but, size, lt⟩ := L5
 clear rd but
 go_wp2_with fail
 refine (take_any b s q4.1 nilS 59 _ (HL5.out.set3 _).rd hs p4).mono ?_
 rintro e w6 ⟨rfl, hr6, hb6⟩
 have L6 := (HL5.out.set3 _).call hr6 hb6
 have HL6 : Hid _ := L6
 clear HL5 g0 g1 g2 g3 gf h0 h1 h2 h3 hf size lt
 clear hr6 hb6
 obtain ⟨rd, g0, g1, g2, g3, gf, h0, h1, h2, h3, hf, but, size, lt⟩ := L6
 clear rd but
 go_wp2_with fail
 refine bodyPost_ret (v := .agg #[.bool false, .int .i64 r1.pos, .int .i64 q2.2, .int .i64 q4.2]) (by simp [results, Tryz.results118, go_sem, g0, g1, g2, g3, h0, h1, h2, h3, gf, hf]) rfl ?_
 obtain ⟨e1, e2⟩ := locH_end HL6.out (.bool false) (.int .i64 r1.pos) (.int .i64 q2.2) (.int .i64 q4.2)
 exact ⟨rfl, e1, e2⟩
theorem head_rd (s : ByteArray) (hs : s.size ≤ 400) (b : Nat) (r : Rd) (w : World) (h : ReaderAt w b s r nilS) (hp : r.pos ≤ s.data.toList.length) :
  Calls Tryz.prog 118 #[.pointer (some ⟨b, 0, none⟩)] w fun e w' => e = .returned (.agg (hdV (headU s.data.toList r).2).toArray) ∧ ReaderAt w' b s (headU s.data.toList r).1 nilS ∧ But b w w' := by
 cases t0 : r.seesOne s.data.toList 63 63
 ·exact head_name s hs b r w h hp t0
 ·exact head_field s hs b r w h hp t0
end Go.Proofs.YtdgmoiflahoihaaGreatDoor
namespace Go.Proofs.YtdgmoiflahoihaaGreatDoor
open Go.RowKit
set_option linter.unusedSimpArgs false
set_option linter.unusedVariables false
def HeadsV (w : World) (P : Nat → Prop) (v : Value) (l : List Hd) : Prop := w.ownsRow 0 146 4 v l.length (hdCells l) ∧ ∀ k, v.ownBlock = some k → P k
theorem headsV_frame {w w' : World} {P Q : Nat → Prop} {v : Value} {l : List Hd} (h : HeadsV w P v l) (hk : ∀ k, P k → k < w.heap.size → Q k ∧ w'.heap[k]? = w.heap[k]?) : HeadsV w' Q v l :=
 ⟨own_same h.1 (fun k e hl => (hk k (h.2 k e) hl).2), fun k e => (hk k (h.2 k e) (h.1.lt k e).2).1⟩
theorem headsV_but {w w' : World} {b B : Nat} {v : Value} {l : List Hd} (h : HeadsV w (fun k => B ≤ k) v l) (hb : But b w w') (hB : b < B) : HeadsV w' (fun k => B ≤ k) v l :=
 headsV_frame h (fun k hk hl => ⟨hk, hb.block k hl (fun e => by cases e; omega)⟩)
theorem headsV_len {w : World} {P : Nat → Prop} {v : Value} {l : List Hd} (h : HeadsV w P v l) : lenOfS v = l.length := by
 rcases Joins.ownsRow_forms h.1 with ⟨rfl, e⟩ | ⟨g, cap, rfl⟩
 ·rw [e]; rfl
 ·rfl
theorem headsL_yes {t : List UInt8} {r : Rd} (k : Nat) (h : (r.seesOne t 63 63 || r.seesOne t 33 33) = true) : headsL t (k + 1) r = ((headsL t k (headU t r).1).1, (headU t r).2 :: (headsL t k (headU t r).1).2) := by
 conv => lhs; unfold headsL
 rw [if_pos h]
theorem headsL_no {t : List UInt8} {r : Rd} (k : Nat) (h : (r.seesOne t 63 63 || r.seesOne t 33 33) = false) : headsL t (k + 1) r = (r, []) := by
 conv => lhs; unfold headsL
 rw [if_neg (by rw [h]; decide)]
theorem four_at (w : World) (g : Nat) (hg : g = w.heap.size) (a0 a1 a2 a3 : Value) (t : TypeId) : ∀ j u, [a0, a1, a2, a3][j]? = some u → (w.alloc (.cells #[a0, a1, a2, a3] t)).cell? ((⟨g, 0, none⟩ : Addr).add j) = some u := by
 subst hg
 intro j u h
 match j, h with
 | 0, h => simp at h; subst h; simp [go_sem, Addr.add]
 | 1, h => simp at h; subst h; simp [go_sem, Addr.add]
 | 2, h => simp at h; subst h; simp [go_sem, Addr.add]
 | 3, h => simp at h; subst h; simp [go_sem, Addr.add]
 | j + 4, h => simp at h
theorem heads_append {w w3 W w4 : World} {b : Nat} {s : ByteArray} {r : Rd} {v v' : Value} {l : List Hd} {q : Hd} {o1 o2 : Obj} (hW : W = (w3.alloc o1).alloc o2)
  (hb : b < w.heap.size) (hB : But b w w3) (hr : ReaderAt w3 b s r nilS) (hm : HeadsV w3 (fun k => w.heap.size ≤ k) v l)
  (ho : w4.ownsRow 0 146 4 v' (l.length + 1) (hdCells l ++ hdV q)) (hg : W.grownBy w4 v.ownBlock) (hf0 : v'.ownBlock = v.ownBlock ∨ ∃ g, v'.ownBlock = some g ∧ w3.heap.size + 1 + 1 ≤ g) :
  HeadsV w4 (fun k => w.heap.size ≤ k) v' (l ++ [q]) ∧ ReaderAt w4 b s r nilS ∧ But b w w4 := by
 subst hW
 have hsz := hB.size
 refine ⟨⟨?_, ?_⟩, ?_, ?_⟩
 ·rw [List.length_append, hdCells_app]
  simpa [hdCells] using ho
 ·intro k e
  rcases hf0 with e1 | ⟨g, e1, hge⟩
  ·rw [e1] at e; exact hm.2 k e
  ·rw [e1] at e; cases e; omega
 ·refine readerAt_grown (readerAt_alloc (readerAt_alloc hr _) _) hg ?_
  intro e
  have := hm.2 b e.symm
  omega
 ·exact But.grown ((hB.alloc _).alloc _) hg hm.2
set_option maxRecDepth 100000 in
set_option maxHeartbeats 1000000 in
theorem heads_any (s : ByteArray) (hs : s.size ≤ 400) (b : Nat) (r : Rd) (w : World) (h : ReaderAt w b s r nilS) (hp : r.pos ≤ s.data.toList.length) :
  Calls Tryz.prog 82 #[.pointer (some ⟨b, 0, none⟩)] w fun e w' => ∃ v, e = .returned v ∧ HeadsV w' (fun k => w.heap.size ≤ k) v (headsL s.data.toList (s.data.toList.length + 1) r).2 ∧ ReaderAt w' b s (headsL s.data.toList (s.data.toList.length + 1) r).1 nilS ∧ But b w w' := by
 have hsl : s.data.toList.length = s.size := by simp
 have hb : b < w.heap.size := World.block_lt_of_cell? w _ h.c0
 obtain ⟨iR, hiR, hzR, hsR, hbR⟩ := parts_of_info infoHead
 generalize hR : headsL s.data.toList (s.data.toList.length + 1) r = R
 have HR : Hid (headsL s.data.toList (s.data.toList.length + 1) r = R) := hR
 have HH : Hid (ReaderAt w b s r nilS) := h
 clear hR h
 go_enter Tryz.func82, Tryz.ntmps82
 go_wp2_with fail
 go_loopw [3] (fun x w' => ∃ (j : Nat) (r' : Rd) (l : List Hd) (v : Value), v = x ∧ Hid (ReaderAt w' b s r' nilS) ∧ Hid (But b w w') ∧ Hid (HeadsV w' (fun k => w.heap.size ≤ k) v l) ∧ r'.pos ≤ s.data.toList.length ∧ l.length + j = s.data.toList.length + 1 ∧ s.data.toList.length - r'.pos < j ∧ Hid ((headsL s.data.toList j r').1 = R.1 ∧ l ++ (headsL s.data.toList j r').2 = R.2)) (fun x _ => 1000 - lenOfS x)
 case atStart => exact ⟨s.data.toList.length + 1, r, [], nilS, rfl, HH, But.refl _ _, ⟨World.ownsRow_nil .., fun k e => (by cases e)⟩, hp, by simp, by omega, by show _ ∧ _; rw [HR.out]; exact ⟨rfl, rfl⟩⟩
 case round =>
  obtain ⟨j, r', l, v, rfl, HR', HB', HM, hp', hlj, hj, HQ⟩ := hrel
  have hsz : w.heap.size ≤ wr.heap.size := HB'.out.size
  have hpp : r'.pos ≤ s.size := by omega
  obtain ⟨j', rfl⟩ : ∃ j', j = j' + 1 := ⟨j - 1, by omega⟩
  cases hor : (r'.seesOne s.data.toList 63 63 || r'.seesOne s.data.toList 33 33)
  ·have hq := HQ.out
   rw [headsL_no j' hor] at hq
   simp only [List.append_nil] at hq
   have HQ2 : Hid _ := hq
   clear hq
   obtain ⟨t1, t2⟩ := Bool.or_eq_false_iff.mp hor
   clear hor
   go_wp2_with fail
   refine (sees_but b s r' nilS 63 _ HR'.out hs hpp).mono ?_
   rw [t1]
   rintro e w2 ⟨rfl, hr2, hb2⟩
   go_wp2_with fail
   refine (sees_but b s r' nilS 33 _ hr2 hs hpp).mono ?_
   rw [t2]
   rintro e w3 ⟨rfl, hr3, hb3⟩
   go_wp2_with fail
   go_ret
   refine ⟨v, rfl, ?_, ?_, (HB'.out.trans hb2).trans hb3⟩
   ·rw [← HQ2.out.2]
    exact headsV_but (headsV_but HM.out hb2 hb) hb3 hb
   ·rw [← HQ2.out.1]
    exact hr3
  ·have hgt := headU_gt hor
   have hst := headU_stp hp'
   have hq := HQ.out
   rw [headsL_yes j' hor] at hq
   simp only at hq
   have HQ2 : Hid _ := hq
   clear hq
   generalize hz : headU s.data.toList r' = z at *
   have HZ : Hid (headU s.data.toList r' = z) := hz
   have HST : Hid _ := hst
   clear hz hst
   obtain ⟨z1, hd⟩ := z
   simp only at hgt
   cases t1 : r'.seesOne s.data.toList 63 63
   ·have t2 : r'.seesOne s.data.toList 33 33 = true := by rw [t1] at hor; simpa using hor
    clear hor
    go_wp2_with fail
    refine (sees_but b s r' nilS 63 _ HR'.out hs hpp).mono ?_
    rw [t1]
    rintro e w2 ⟨rfl, hr2, hb2⟩
    go_wp2_with fail
    refine (sees_but b s r' nilS 33 _ hr2 hs hpp).mono ?_
    rw [t2]
    rintro e w3 ⟨rfl, hr3, hb3⟩
    have HM3 : Hid (HeadsV w3 (fun k => w.heap.size ≤ k) v l) := headsV_but (headsV_but HM.out hb2 hb) hb3 hb
    have HB3 : Hid (But b w w3) := (HB'.out.trans hb2).trans hb3
    clear HM HB' hb2 hb3 hr2 t1 t2
    go_wp2_with fail
    refine (head_rd s hs b r' _ hr3 hp').mono ?_
    rw [HZ.out]
    rintro e w4 ⟨rfl, hr4, hb4⟩
    have HM4 : Hid (HeadsV w4 (fun k => w.heap.size ≤ k) v l) := headsV_but HM3.out hb4 hb
    have HB4 : Hid (But b w w4) := HB3.out.trans hb4
    have hsz4 := HB4.out.size
    clear hb4 HM3 HB3 hr3
    have HR4 : Hid _ := hr4
    clear hr4
    simp only [hdV]
    go_wp2_with (at_builtin; refine wpList_append_fresh rfl (.tmp 13) (.tmp 15) 65 rfl 0 146 iR (.agg #[.bool false, .int .i64 0, .int .i64 0, .int .i64 0]) 4 32 Tryz.underlying65 hiR hzR hsR hbR rfl (by decide) v l.length (hdCells l) (by rfl) (by exact (HM4.out.1.alloc _).alloc _) ⟨w4.heap.size + 1, 0, none⟩ 1 1 [.bool hd.field, .int .i64 hd.place, .int .i64 hd.name, .int .i64 hd.label] (by rfl) rfl (by exact four_at _ _ (by simp) _ _ _ _ 146) (by intro q hq; simp at hq; rcases hq with rfl | rfl | rfl | rfl <;> rfl) (by unfold maxLen; omega) (by omega) (Nat.zero_le _) (by decide) ?nxt)
    case nxt =>
     intro v' w5 hown hgrow hfr
     obtain ⟨mk, hr5, hb5⟩ := heads_append (q := hd) rfl hb HB4.out HR4.out HM4.out hown hgrow hfr
     have hlv := headsV_len HM4.out
     have HM5 : Hid _ := mk
     obtain ⟨g, cap, hv'⟩ := Joins.ownsRow_form hown (by omega)
     subst hv'
     have HR5 : Hid _ := hr5
     have HB5 : Hid _ := hb5
     clear hgrow hfr hown hr5 hb5 mk
     go_wp2_with fail
     go_roundw
     case rel =>
      refine ⟨j', z1, l ++ [hd], _, rfl, HR5, HB5, HM5, HST.out.le, by simp; omega, by have := HST.out.le; omega, ?_⟩
      have := HQ2.out
      exact ⟨this.1, by rw [List.append_assoc]; exact this.2⟩
     case measure =>
      rw [hlv]
      simp only [lenOfS]
      omega
   ·clear hor
    go_wp2_with fail
    refine (sees_but b s r' nilS 63 _ HR'.out hs hpp).mono ?_
    rw [t1]
    rintro e w3 ⟨rfl, hr3, hb3⟩
    have HM3 : Hid (HeadsV w3 (fun k => w.heap.size ≤ k) v l) := headsV_but HM.out hb3 hb
    have HB3 : Hid (But b w w3) := HB'.out.trans hb3
    clear HM HB' hb3 t1
    go_wp2_with fail
    refine (head_rd s hs b r' _ hr3 hp').mono ?_
    rw [HZ.out]
    rintro e w4 ⟨rfl, hr4, hb4⟩
    have HM4 : Hid (HeadsV w4 (fun k => w.heap.size ≤ k) v l) := headsV_but HM3.out hb4 hb
    have HB4 : Hid (But b w w4) := HB3.out.trans hb4
    have hsz4 := HB4.out.size
    clear hb4 HM3 HB3 hr3
    have HR4 : Hid _ := hr4
    clear hr4
    simp only [hdV]
    go_wp2_with (at_builtin; refine wpList_append_fresh rfl (.tmp 13) (.tmp 15) 65 rfl 0 146 iR (.agg #[.bool false, .int .i64 0, .int .i64 0, .int .i64 0]) 4 32 Tryz.underlying65 hiR hzR hsR hbR rfl (by decide) v l.length (hdCells l) (by rfl) (by exact (HM4.out.1.alloc _).alloc _) ⟨w4.heap.size + 1, 0, none⟩ 1 1 [.bool hd.field, .int .i64 hd.place, .int .i64 hd.name, .int .i64 hd.label] (by rfl) rfl (by exact four_at _ _ (by simp) _ _ _ _ 146) (by intro q hq; simp at hq; rcases hq with rfl | rfl | rfl | rfl <;> rfl) (by unfold maxLen; omega) (by omega) (Nat.zero_le _) (by decide) ?nxt)
    case nxt =>
     intro v' w5 hown hgrow hfr
     obtain ⟨mk, hr5, hb5⟩ := heads_append (q := hd) rfl hb HB4.out HR4.out HM4.out hown hgrow hfr
     have hlv := headsV_len HM4.out
     have HM5 : Hid _ := mk
     obtain ⟨g, cap, hv'⟩ := Joins.ownsRow_form hown (by omega)
     subst hv'
     have HR5 : Hid _ := hr5
     have HB5 : Hid _ := hb5
     clear hgrow hfr hown hr5 hb5 mk
     go_wp2_with fail
     go_roundw
     case rel =>
      refine ⟨j', z1, l ++ [hd], _, rfl, HR5, HB5, HM5, HST.out.le, by simp; omega, by have := HST.out.le; omega, ?_⟩
      have := HQ2.out
      exact ⟨this.1, by rw [List.append_assoc]; exact this.2⟩
     case measure =>
      rw [hlv]
      simp only [lenOfS]
      omega
end Go.Proofs.YtdgmoiflahoihaaGreatDoor
