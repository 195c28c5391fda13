import Derived.Test.YtdgmoiflahoihabGreatDoorRRulew

namespace Go.Proofs.YtdgmoiflahoihabGreatDoor
open Go.RowKit
set_option linter.unusedSimpArgs false
set_option linter.unusedVariables false
def Making (n : Nat) (w : World) (B : Nat) (v : Value) (l : List (RT (n + 1))) : Prop :=
 RowsC (α := RT (n + 1)) (fun cs q => RuleV n w (fun k => B ≤ k ∧ some k ≠ v.ownBlock) cs q) w (fun k => B ≤ k) v l
def lenOfS : Value → Nat
 | .slice _ n _ => n
 | _ => 0
theorem making_nil (n : Nat) (w : World) (B : Nat) : Making n w B nilS [] := ⟨[], World.ownsRow_nil .., fun k e => (by cases e), rfl, fun i h => (by cases h)⟩
theorem making_done {n : Nat} {w : World} {B : Nat} {v : Value} {l : List (RT (n + 1))} (h : Making n w B v l) : RulesV (n + 1) w (fun k => B ≤ k) v l :=
 rowsC_frame (one := fun cs (q : RT (n + 1)) => RuleV n w (fun k => B ≤ k ∧ some k ≠ v.ownBlock) cs q) h (fun k hk _ => ⟨hk, rfl⟩) (fun cs q hq => ruleV_frame hq (fun k hk _ => ⟨hk.1, rfl⟩))
theorem making_frame {n : Nat} {w w' : World} {B : Nat} {v : Value} {l : List (RT (n + 1))} (h : Making n w B v l) (hk : ∀ k, B ≤ k → k < w.heap.size → w'.heap[k]? = w.heap[k]?) : Making n w' B v l :=
 rowsC_frame (one := fun cs (q : RT (n + 1)) => RuleV n w (fun k => B ≤ k ∧ some k ≠ v.ownBlock) cs q) h (fun k h1 h2 => ⟨h1, hk k h1 h2⟩) (fun cs q hq => ruleV_frame hq (fun k h1 h2 => ⟨h1, hk k h1.1 h2⟩))
theorem making_but {n : Nat} {w w' : World} {B b : Nat} {v : Value} {l : List (RT (n + 1))} (h : Making n w B v l) (hb : But b w w') (hB : b < B) : Making n w' B v l :=
 making_frame h (fun k h1 h2 => hb.block k h2 (fun e => by cases e; omega))
theorem making_more {n : Nat} {w w' : World} {B : Nat} {v v' : Value} {l : List (RT (n + 1))} {q : RT (n + 1)} {xs : List (List Value)} {cs : List Value} (hB : B ≤ w.heap.size)
  (h2 : ∀ k, v.ownBlock = some k → B ≤ k ∧ k < w.heap.size) (h3 : xs.length = l.length) (h4 : ∀ i (h : i < l.length) (h' : i < xs.length), RuleV n w (fun k => B ≤ k ∧ some k ≠ v.ownBlock) xs[i] l[i])
  (hq : RuleV n w (fun k => B ≤ k ∧ some k ≠ v.ownBlock) cs q)
  (ho : w'.ownsRow 0 104 8 v' (l.length + 1) (xs.flatten ++ cs)) (hg : w.grownBy w' v.ownBlock) (hf : v'.ownBlock = v.ownBlock ∨ ∃ g, v'.ownBlock = some g ∧ w.heap.size ≤ g) : Making n w' B v' (l ++ [q]) := by
 have hk : ∀ k, (B ≤ k ∧ some k ≠ v.ownBlock) → k < w.heap.size → (B ≤ k ∧ some k ≠ v'.ownBlock) ∧ w'.heap[k]? = w.heap[k]? := by
  intro k h1 hl
  refine ⟨⟨h1.1, ?_⟩, hg.block k hl h1.2⟩
  rcases hf with e | ⟨g, e, hge⟩
  ·rw [e]; exact h1.2
  ·rw [e]; intro e2; cases e2; omega
 refine ⟨xs ++ [cs], by simpa using ho, ?_, by simp [h3], ?_⟩
 ·intro k e
  rcases hf with e1 | ⟨g, e1, hge⟩
  ·rw [e1] at e; exact (h2 k e).1
  ·rw [e1] at e; cases e; omega
 ·intro i h h'
  by_cases hi : i < l.length
  ·have := ruleV_frame (h4 i hi (by omega)) hk
   simpa [List.getElem_append, hi, h3] using this
  ·have hi2 : i = l.length := by simp at h; omega
   subst hi2
   have := ruleV_frame hq hk
   simpa [List.getElem_append, h3] using this
theorem rulesL_stop {α : Type} {rule : Rd → Rd × α} {halt : Rd → Bool} {k : Nat} {r : Rd} (h : halt r = true) : rulesL rule halt (k + 1) r = (r, []) := by
 unfold rulesL; rw [h]; simp
theorem rulesL_step {α : Type} {rule : Rd → Rd × α} {halt : Rd → Bool} {k : Nat} {r : Rd} (hb : r.bad = false) (h : halt r = false) : rulesL rule halt (k + 1) r = ((rulesL rule halt k (rule r).1).1, (rule r).2 :: (rulesL rule halt k (rule r).1).2) := by
 conv => lhs; unfold rulesL
 rw [h, hb]; simp
theorem eight_new (w : World) (a0 a1 a2 a3 a4 a5 a6 a7 : Value) (t : TypeId) : ∀ j u, [a0, a1, a2, a3, a4, a5, a6, a7][j]? = some u → (w.alloc (.cells #[a0, a1, a2, a3, a4, a5, a6, a7] t)).cell? ((⟨w.heap.size, 0, none⟩ : Addr).add j) = some u := by
 intro j u h
 match j, h with
 | 0, h => simp at h; subst h; simp [go_sem, Addr.add]
 | 1, h => simp at h; subst h; simp [go_sem, Addr.add]
 | 2, h => simp at h; subst h; simp [go_sem, Addr.add]
 | 3, h => simp at h; subst h; simp [go_sem, Addr.add]
 | 4, h => simp at h; subst h; simp [go_sem, Addr.add]
 | 5, h => simp at h; subst h; simp [go_sem, Addr.add]
 | 6, h => simp at h; subst h; simp [go_sem, Addr.add]
 | 7, h => simp at h; subst h; simp [go_sem, Addr.add]
 | j + 8, h => simp at h
theorem eight_at (w : World) (g : Nat) (hg : g = w.heap.size) (a0 a1 a2 a3 a4 a5 a6 a7 : Value) (t : TypeId) : ∀ j u, [a0, a1, a2, a3, a4, a5, a6, a7][j]? = some u → (w.alloc (.cells #[a0, a1, a2, a3, a4, a5, a6, a7] t)).cell? ((⟨g, 0, none⟩ : Addr).add j) = some u := by
 subst hg
 exact eight_new w a0 a1 a2 a3 a4 a5 a6 a7 t
theorem But.grown {b : Nat} {w W w' : World} {row : Option Nat} (h : But b w W) (hg : W.grownBy w' row) (hr : ∀ k, row = some k → w.heap.size ≤ k) : But b w w' := by
 obtain ⟨h1, h2, h3, h4, h5⟩ := h
 obtain ⟨k1, k2, k3, k4, k5⟩ := hg
 refine ⟨k1.trans h1, k2.trans h2, k3.trans h3, by omega, fun k hk hne => ?_⟩
 rw [k5 k (by omega) (fun e => by have := hr k e.symm; omega)]
 exact h5 k hk hne
theorem making_len {n : Nat} {w : World} {B : Nat} {v : Value} {l : List (RT (n + 1))} (h : Making n w B v l) : lenOfS v = l.length := by
 obtain ⟨xs, h1, _⟩ := h
 rcases Joins.ownsRow_forms h1 with ⟨rfl, e⟩ | ⟨g, cap, rfl⟩
 ·rw [e]; rfl
 ·rfl
theorem making_append {n : Nat} {w w3 W w4 : World} {b : Nat} {s : ByteArray} {r : Rd} {v v' : Value} {l : List (RT (n + 1))} {q : RT (n + 1)} {cs : List Value} {o1 o2 : Obj} (hW : W = (w3.alloc o1).alloc o2)
  (hb : b < w.heap.size) (hB : But b w w3) (hr : ReaderAt w3 b s r nilS) {xs : List (List Value)} (m1 : w3.ownsRow 0 104 8 v l.length xs.flatten) (m2 : ∀ k, v.ownBlock = some k → w.heap.size ≤ k) (m3 : xs.length = l.length)
  (m4 : ∀ i (h : i < l.length) (h' : i < xs.length), RuleV n w3 (fun k => w.heap.size ≤ k ∧ some k ≠ v.ownBlock) xs[i] l[i])
  (hq : RuleV n w3 (fun k => w.heap.size ≤ k ∧ some k ≠ v.ownBlock) cs q)
  (ho : w4.ownsRow 0 104 8 v' (l.length + 1) (xs.flatten ++ cs)) (hg : W.grownBy w4 v.ownBlock) (hf0 : v'.ownBlock = v.ownBlock ∨ ∃ g, v'.ownBlock = some g ∧ w3.heap.size + 1 + 1 ≤ g) :
  Making n w4 w.heap.size v' (l ++ [q]) ∧ ReaderAt w4 b s r nilS ∧ But b w w4 := by
 subst hW
 have hsz := hB.size
 have hf : v'.ownBlock = v.ownBlock ∨ ∃ g, v'.ownBlock = some g ∧ ((w3.alloc o1).alloc o2).heap.size ≤ g := by
  rcases hf0 with e | ⟨g, e, hge⟩
  ·exact .inl e
  ·exact .inr ⟨g, e, by simp; omega⟩
 have hk : ∀ k, (w.heap.size ≤ k ∧ some k ≠ v.ownBlock) → k < w3.heap.size → (w.heap.size ≤ k ∧ some k ≠ v.ownBlock) ∧ ((w3.alloc o1).alloc o2).heap[k]? = w3.heap[k]? := by
  intro k h1 hl
  refine ⟨h1, ?_⟩
  rw [Below.heap_alloc _ _ _ (by simp; omega), Below.heap_alloc _ _ _ hl]
 refine ⟨making_more (w := (w3.alloc o1).alloc o2) (by simp; omega) (fun k e => ⟨m2 k e, by have := (m1.lt k e).2; simp; omega⟩) m3 (fun i h h' => ruleV_frame (m4 i h h') hk) (ruleV_frame hq hk) ho hg hf, ?_, ?_⟩
 ·refine readerAt_grown (readerAt_alloc (readerAt_alloc hr _) _) hg ?_
  intro e
  have := m2 b e.symm
  omega
 ·exact But.grown ((hB.alloc _).alloc _) hg m2
set_option maxRecDepth 100000 in
set_option maxHeartbeats 1000000 in
theorem block_succ (s : ByteArray) (hs : s.size ≤ 400) (n : Nat) (hB : BlkCalls s n) : BlkCalls s (n + 1) := by
 intro b r w h f hn
 have hsl : s.data.toList.length = s.size := by simp
 have d0 := f.d0
 have d8 := f.d8
 have p0 : r.pos ≤ s.size := by have := f.le; omega
 have hb : b < w.heap.size := World.block_lt_of_cell? w _ h.c0
 obtain ⟨o1, o2, o3, o4, o5⟩ := opening_facts (t := s.data.toList) 123 f.le
 obtain ⟨iR, hiR, hzR, hsR, hbR⟩ := parts_of_info infoRule
 show Calls _ _ _ _ fun e w' => ∃ v, e = .returned v ∧ RulesV (n + 1) w' _ v (blockU s.data.toList (fun r => ruleF s.data.toList n r) r).2 ∧ ReaderAt w' b s (blockU s.data.toList (fun r => ruleF s.data.toList n r) r).1 nilS ∧ But b w w'
 unfold blockU
 simp only
 generalize hR : rulesL (fun r => ruleF s.data.toList n r) (fun r => r.seesOne s.data.toList 125 125) (s.data.toList.length + 1) (r.opening s.data.toList 123) = R
 generalize hO : r.opening s.data.toList 123 = ro at *
 have HO : Hid (r.opening s.data.toList 123 = ro) := hO
 have HR : Hid (rulesL (fun r => ruleF s.data.toList n r) (fun r => r.seesOne s.data.toList 125 125) (s.data.toList.length + 1) ro = R) := hR
 have HB : Hid (BlkCalls s n) := hB
 have HH : Hid (ReaderAt w b s r nilS) := h
 have HO5 : Hid (8 ≤ r.depth → ro.bad = true) := o5
 clear hR hO hB h o4 o5
 go_enter Tryz.func103, Tryz.ntmps103
 go_wp2_with fail
 refine (opening_any b s r nilS 123 _ HH.out hs p0 (by omega) (by omega)).mono ?_
 rw [HO.out]
 rintro e w1 ⟨rfl, hr1, hb1⟩
 go_wp2_with fail
 go_loopw [3] (fun x w' => ∃ (j : Nat) (r' : Rd) (l : List (RT (n + 1))) (v : Value), v = x ∧ Hid (ReaderAt w' b s r' nilS) ∧ Hid (But b w w') ∧ Hid (Making n w' w.heap.size v l) ∧ r'.pos ≤ s.data.toList.length ∧ r'.depth = r.depth + 1 ∧ Hid (8 ≤ r.depth → r'.bad = true) ∧ l.length + j = s.data.toList.length + 1 ∧ Hid (r'.bad = false → s.data.toList.length - r'.pos < j) ∧ Hid ((rulesL (fun r => ruleF s.data.toList n r) (fun r => r.seesOne s.data.toList 125 125) j r').1 = R.1 ∧ l ++ (rulesL (fun r => ruleF s.data.toList n r) (fun r => r.seesOne s.data.toList 125 125) j r').2 = R.2)) (fun x _ => 1000 - lenOfS x)
 case atStart => exact ⟨s.data.toList.length + 1, ro, [], _, rfl, hr1, hb1, making_nil _ _ _, o2, o3, HO5, by simp, fun _ => by omega, by show _ ∧ _; rw [HR.out]; exact ⟨rfl, rfl⟩⟩
 case round =>
  obtain ⟨j, r', l, v, rfl, HR', HB', HM, hp', hd', HD', hlj, HJ, HQ⟩ := hrel
  have hsz : w.heap.size ≤ wr.heap.size := HB'.out.size
  have hpp : r'.pos ≤ s.size := by omega
  obtain ⟨c0, c1, c2, c3, c4, fz⟩ := id HR'.out
  cases hbad : r'.bad
  ·have hj := HJ.out hbad
   obtain ⟨j', rfl⟩ : ∃ j', j = j' + 1 := ⟨j - 1, by omega⟩
   have hd7 : r.depth < 8 := by
    apply Decidable.byContradiction
    intro hc
    have := HD'.out (by omega)
    rw [hbad] at this
    cases this
   rw [hbad] at c4
   cases hse : r'.seesOne s.data.toList 125 125
   ·have hq := HQ.out
    rw [rulesL_step hbad hse] at hq
    simp only at hq
    go_wp2_with fail
    refine (sees_but b s r' nilS 125 _ HR'.out hs hpp).mono ?_
    rw [hse]
    rintro e w2 ⟨rfl, hr2, hb2⟩
    have fb : FitB s.data.toList r' := ⟨hp', by omega, by omega⟩
    have hst := ruleF_stp s.data.toList n fb
    have HM2 : Hid (Making n w2 w.heap.size v l) := making_but HM.out hb2 hb
    have HB2 : Hid (But b w w2) := HB'.out.trans hb2
    clear HM HB' c0 c1 c2 c3 c4 fz hb2
    go_wp2_with fail
    refine (rule_rd s hs b r' _ hr2 fb n HB.out (by omega)).mono ?_
    rintro e w3 ⟨cs, rfl, hru, hr3, hb3⟩
    generalize hz : ruleF s.data.toList n r' = z at *
    clear hz hr2
    obtain ⟨z1, rule⟩ := z
    simp only at hru hr3 hst hq
    have hsz2 : w2.heap.size ≤ w3.heap.size := hb3.size
    have hsz2b := HB2.out.size
    have hbw3 : b < w3.heap.size := by omega
    have HM3 : Hid (Making n w3 w.heap.size v l) := making_but HM2.out hb3 hb
    have HB3 : Hid (But b w w3) := HB2.out.trans hb3
    obtain ⟨xs, m1, m2, m3, m4⟩ := HM3.out
    have hown2 : ∀ k, v.ownBlock = some k → k < w2.heap.size := by
     obtain ⟨ys, y1, _⟩ := HM2.out
     exact fun k e => (y1.lt k e).2
    have hru2 : RuleV n w3 (fun k => w.heap.size ≤ k ∧ some k ≠ v.ownBlock) cs rule := ruleV_frame hru (fun k hk _ => ⟨⟨by omega, fun e => by have := hown2 k e.symm; omega⟩, rfl⟩)
    have HRU : Hid _ := hru2
    obtain ⟨ve, va, vb, hcs, hpe, hra, hrb⟩ := hru
    subst hcs
    obtain ⟨ae, ne, ce, hve⟩ : ∃ aa nn cc, ve = .slice aa nn cc := by
     rcases Joins.ownsRow_forms hpe.1 with ⟨rfl, _⟩ | ⟨g, cap, rfl⟩ <;> exact ⟨_, _, _, rfl⟩
    obtain ⟨aa, na, ca, hva⟩ := rulesV_form hra
    obtain ⟨ab, nb, cb, hvb⟩ := rulesV_form hrb
    subst hve hva hvb
    clear hpe hra hrb hb3 HM2 HB2 hru2
    have HQ2 : Hid _ := hq
    have HST : Hid _ := hst
    have HR3 : Hid _ := hr3
    obtain ⟨c0, c1, c2, c3, c4, fz⟩ := hr3
    have M1 : Hid (w3.ownsRow 0 104 8 v l.length xs.flatten) := m1
    have M2 : Hid (∀ k, v.ownBlock = some k → w.heap.size ≤ k) := m2
    have M4 : Hid _ := m4
    clear m1 m2 m4 hq hst
    simp only [coreV, List.cons_append, List.nil_append]
    go_wp2_with (at_builtin; refine wpList_append_fresh rfl (.tmp 19) (.tmp 21) 59 rfl 0 104 iR (.agg #[.int .i64 0, .int .i64 0, .int .i64 0, .int .i64 0, .int .i64 0, .slice none 0 0, .slice none 0 0, .slice none 0 0]) 8 112 Tryz.underlying59 hiR hzR hsR hbR rfl (by decide) v l.length xs.flatten (by rfl) (by exact (M1.out.alloc _).alloc _) ⟨w3.heap.size + 1, 0, none⟩ 1 1 [.int .i64 rule.1.kind, .int .i64 rule.1.place, .int .i64 rule.1.name, .int .i64 rule.1.label, .int .i64 rule.1.count, .slice ae ne ce, .slice aa na ca, .slice ab nb cb] (by rfl) rfl (by exact eight_at _ _ (by simp) _ _ _ _ _ _ _ _ 104) (by intro q hq; simp at hq; rcases hq with rfl | rfl | rfl | rfl | rfl | rfl | rfl | rfl <;> rfl) (by unfold maxLen; omega) (by omega) (Nat.zero_le _) (by decide) ?nxt)
    case nxt =>
     intro v' w4 hown hgrow hfr
     obtain ⟨mk, hr4, hb4⟩ := making_append rfl hb HB3.out HR3.out M1.out M2.out m3 M4.out HRU.out hown hgrow hfr
     have HM4 : Hid _ := mk
     have hlv := making_len HM3.out
     have hlv4 := making_len mk
     obtain ⟨g, cap, hv'⟩ := Joins.ownsRow_form hown (by omega)
     subst hv'
     have HR4 : Hid _ := hr4
     have HB4 : Hid _ := hb4
     clear c0 c1 c2 c3 c4 fz hgrow hfr hown hr4 hb4 mk
     go_wp2_with fail
     go_roundw
     case rel =>
      refine ⟨j', z1, l ++ [rule], _, rfl, HR4, HB4, HM4, HST.out.1.le, by rw [HST.out.1.depth]; exact hd', fun h8 => by omega, by simp; omega, fun hzb => ?_, ?_⟩
      ·have := HST.out.2
       have := HST.out.1.le
       rcases HST.out.2 with h5 | h5
       ·rw [hzb] at h5; cases h5
       ·omega
      ·have := HQ2.out
       exact ⟨this.1, by rw [List.append_assoc]; exact this.2⟩
     case measure =>
      rw [hlv]
      simp only [lenOfS]
      omega
   ·have hq := HQ.out
    rw [rulesL_stop (rule := fun r => ruleF s.data.toList n r) (halt := fun r => r.seesOne s.data.toList 125 125) hse] at hq
    simp only [List.append_nil] at hq
    have HQ2 : Hid _ := hq
    clear hq
    go_wp2_with fail
    refine (sees_but b s r' nilS 125 _ HR'.out hs hpp).mono ?_
    rw [hse]
    rintro e w2 ⟨rfl, hr2, hb2⟩
    have HM2 : Hid (Making n w2 w.heap.size v l) := making_but HM.out hb2 hb
    have HB2 : Hid (But b w w2) := HB'.out.trans hb2
    clear HM HB' c0 c1 c2 c3 c4 fz hb2
    go_wp2_with fail
    refine (closing_any b s r' nilS 125 _ hr2 hs hpp (by omega) (by omega)).mono ?_
    rintro e w3 ⟨rfl, hr3, hb3⟩
    go_wp2_with fail
    go_ret
    refine ⟨v, rfl, ?_, ?_, HB2.out.trans hb3⟩
    ·rw [← HQ2.out.2]
     exact making_done (making_but HM2.out hb3 hb)
    ·rw [← HQ2.out.1]
     exact hr3
  ·have hq := HQ.out
   rw [rulesL_bad hbad] at hq
   simp only [List.append_nil] at hq
   have HQ2 : Hid _ := hq
   rw [hbad] at c4
   clear hq
   go_wp2_with fail
   refine (closing_any b s r' nilS 125 _ HR'.out hs hpp (by omega) (by omega)).mono ?_
   rintro e w3 ⟨rfl, hr3, hb3⟩
   go_wp2_with fail
   go_ret
   refine ⟨v, rfl, ?_, ?_, HB'.out.trans hb3⟩
   ·rw [← HQ2.out.2]
    exact making_done (making_but HM.out hb3 hb)
   ·rw [← HQ2.out.1]
    exact hr3
end Go.Proofs.YtdgmoiflahoihabGreatDoor
namespace Go.Proofs.YtdgmoiflahoihabGreatDoor
open Go.RowKit
set_option linter.unusedSimpArgs false
set_option linter.unusedVariables false
set_option maxHeartbeats 1000000 in
theorem block_zero (s : ByteArray) (hs : s.size ≤ 400) : BlkCalls s 0 := by
 intro b r w h f hn
 have hsl : s.data.toList.length = s.size := by simp
 have d0 := f.d0
 have d8 := f.d8
 have p0 : r.pos ≤ s.size := by have := f.le; omega
 have hb : b < w.heap.size := World.block_lt_of_cell? w _ h.c0
 obtain ⟨o1, o2, o3, o4, o5⟩ := opening_facts (t := s.data.toList) 123 f.le
 show Calls _ _ _ _ fun e w' => ∃ v, e = .returned v ∧ RulesV 0 w' _ v _ ∧ ReaderAt w' b s ((r.opening s.data.toList 123).closing s.data.toList 125) nilS ∧ But b w w'
 generalize hO : r.opening s.data.toList 123 = ro at *
 have HO : Hid (r.opening s.data.toList 123 = ro) := hO
 have hbad : ro.bad = true := o5 (by omega)
 have HH : Hid (ReaderAt w b s r nilS) := h
 have hpp : ro.pos ≤ s.size := by omega
 clear hO h o4 o5
 go_enter Tryz.func103, Tryz.ntmps103
 go_wp2_with fail
 refine (opening_any b s r nilS 123 _ HH.out hs p0 (by omega) (by omega)).mono ?_
 rw [HO.out]
 rintro e w1 ⟨rfl, hr1, hb1⟩
 go_wp2_with fail
 go_loopw [3] (fun x w' => x = nilS ∧ w' = w1) (fun x _ => 0)
 case atStart => exact ⟨rfl, rfl⟩
 case round =>
  obtain ⟨rfl, rfl⟩ := hrel
  have HR1 : Hid _ := hr1
  obtain ⟨c0, c1, c2, c3, c4, fz⟩ := hr1
  rw [hbad] at c4
  go_wp2_with fail
  refine (closing_any b s ro nilS 125 _ HR1.out hs hpp (by omega) (by omega)).mono ?_
  rintro e w3 ⟨rfl, hr3, hb3⟩
  go_wp2_with fail
  go_ret
  exact ⟨nilS, rfl, ⟨World.ownsRow_nil .., fun k e => (by cases e)⟩, hr3, hb1.trans hb3⟩
theorem block_all (s : ByteArray) (hs : s.size ≤ 400) : ∀ n, BlkCalls s n
 | 0 => block_zero s hs
 | n + 1 => block_succ s hs n (block_all s hs n)
theorem atEnd_but (b : Nat) (s : ByteArray) (r : Rd) (pv : Value) (w : World) (h : ReaderAt w b s r pv) (hs : s.size ≤ 400) (hp : r.pos ≤ s.size) :
  Calls Tryz.prog 70 #[.pointer (some ⟨b, 0, none⟩)] w fun e w' => e = .returned (.bool (decide (s.size ≤ r.pos))) ∧ ReaderAt w' b s r pv ∧ But b w w' := by
 refine (atEnd_any b s r pv w h hs hp).mono ?_
 rintro e w' ⟨rfl, n, rfl⟩
 exact ⟨rfl, h.drewN n, (But.refl b _).drewN n⟩
set_option maxRecDepth 100000 in
set_option maxHeartbeats 1000000 in
theorem topRules_any (s : ByteArray) (hs : s.size ≤ 400) (n b : Nat) (hn8 : n = 8) (r : Rd) (w : World) (h : ReaderAt w b s r nilS) (f : r.pos ≤ s.data.toList.length) (hd : r.depth = 0) :
  Calls Tryz.prog 50 #[.pointer (some ⟨b, 0, none⟩)] w fun e w' => ∃ v, e = .returned v ∧ RulesV (n + 1) w' (fun k => w.heap.size ≤ k) v (rulesL (fun r => ruleF s.data.toList n r) (fun r => decide (s.data.toList.length ≤ r.pos)) (s.data.toList.length + 1) r).2 ∧ ReaderAt w' b s (rulesL (fun r => ruleF s.data.toList n r) (fun r => decide (s.data.toList.length ≤ r.pos)) (s.data.toList.length + 1) r).1 nilS ∧ But b w w' := by
 have hsl : s.data.toList.length = s.size := by simp
 have p0 : r.pos ≤ s.size := by omega
 have hb : b < w.heap.size := World.block_lt_of_cell? w _ h.c0
 obtain ⟨iR, hiR, hzR, hsR, hbR⟩ := parts_of_info infoRule
 generalize hR : rulesL (fun r => ruleF s.data.toList n r) (fun r => decide (s.data.toList.length ≤ r.pos)) (s.data.toList.length + 1) r = R
 have HR : Hid (rulesL (fun r => ruleF s.data.toList n r) (fun r => decide (s.data.toList.length ≤ r.pos)) (s.data.toList.length + 1) r = R) := hR
 have HB : Hid (BlkCalls s n) := block_all s hs n
 have HH : Hid (ReaderAt w b s r nilS) := h
 clear hR h
 go_enter Tryz.func50, Tryz.ntmps50
 go_wp2_with fail
 go_loopw [3] (fun x w' => ∃ (j : Nat) (r' : Rd) (l : List (RT (n + 1))) (v : Value), v = x ∧ Hid (ReaderAt w' b s r' nilS) ∧ Hid (But b w w') ∧ Hid (Making n w' w.heap.size v l) ∧ r'.pos ≤ s.data.toList.length ∧ r'.depth = 0 ∧ l.length + j = s.data.toList.length + 1 ∧ Hid (r'.bad = false → s.data.toList.length - r'.pos < j) ∧ Hid ((rulesL (fun r => ruleF s.data.toList n r) (fun r => decide (s.data.toList.length ≤ r.pos)) j r').1 = R.1 ∧ l ++ (rulesL (fun r => ruleF s.data.toList n r) (fun r => decide (s.data.toList.length ≤ r.pos)) j r').2 = R.2)) (fun x _ => 1000 - lenOfS x)
 case atStart => exact ⟨s.data.toList.length + 1, r, [], nilS, rfl, HH, But.refl _ _, making_nil _ _ _, f, hd, by simp, fun _ => by omega, by show _ ∧ _; rw [HR.out]; exact ⟨rfl, rfl⟩⟩
 case round =>
  obtain ⟨j, r', l, v, rfl, HR', HB', HM, hp', hd', hlj, HJ, HQ⟩ := hrel
  have hsz : w.heap.size ≤ wr.heap.size := HB'.out.size
  have hpp : r'.pos ≤ s.size := by omega
  obtain ⟨c0, c1, c2, c3, c4, fz⟩ := id HR'.out
  cases hbad : r'.bad
  ·have hj := HJ.out hbad
   obtain ⟨j', rfl⟩ : ∃ j', j = j' + 1 := ⟨j - 1, by omega⟩
   rw [hbad] at c4
   cases hse : decide (s.data.toList.length ≤ r'.pos)
   ·have hq := HQ.out
    rw [rulesL_step hbad hse] at hq
    simp only at hq
    go_wp2_with fail
    refine (atEnd_but b s r' nilS _ HR'.out hs hpp).mono ?_
    rw [show decide (s.size ≤ r'.pos) = _ from hsl ▸ hse]
    rintro e w2 ⟨rfl, hr2, hb2⟩
    have fb : FitB s.data.toList r' := ⟨hp', by omega, by omega⟩
    have hst := ruleF_stp s.data.toList n fb
    have HM2 : Hid (Making n w2 w.heap.size v l) := making_but HM.out hb2 hb
    have HB2 : Hid (But b w w2) := HB'.out.trans hb2
    clear HM HB' c0 c1 c2 c3 c4 fz hb2
    go_wp2_with fail
    refine (rule_rd s hs b r' _ hr2 fb n HB.out (by omega)).mono ?_
    rintro e w3 ⟨cs, rfl, hru, hr3, hb3⟩
    generalize hz : ruleF s.data.toList n r' = z at *
    clear hz hr2
    obtain ⟨z1, rule⟩ := z
    simp only at hru hr3 hst hq
    have hsz2 : w2.heap.size ≤ w3.heap.size := hb3.size
    have hsz2b := HB2.out.size
    have hbw3 : b < w3.heap.size := by omega
    have HM3 : Hid (Making n w3 w.heap.size v l) := making_but HM2.out hb3 hb
    have HB3 : Hid (But b w w3) := HB2.out.trans hb3
    obtain ⟨xs, m1, m2, m3, m4⟩ := HM3.out
    have hown2 : ∀ k, v.ownBlock = some k → k < w2.heap.size := by
     obtain ⟨ys, y1, _⟩ := HM2.out
     exact fun k e => (y1.lt k e).2
    have hru2 : RuleV n w3 (fun k => w.heap.size ≤ k ∧ some k ≠ v.ownBlock) cs rule := ruleV_frame hru (fun k hk _ => ⟨⟨by omega, fun e => by have := hown2 k e.symm; omega⟩, rfl⟩)
    have HRU : Hid _ := hru2
    obtain ⟨ve, va, vb, hcs, hpe, hra, hrb⟩ := hru
    subst hcs
    obtain ⟨ae, ne, ce, hve⟩ : ∃ aa nn cc, ve = .slice aa nn cc := by
     rcases Joins.ownsRow_forms hpe.1 with ⟨rfl, _⟩ | ⟨g, cap, rfl⟩ <;> exact ⟨_, _, _, rfl⟩
    obtain ⟨aa, na, ca, hva⟩ := rulesV_form hra
    obtain ⟨ab, nb, cb, hvb⟩ := rulesV_form hrb
    subst hve hva hvb
    clear hpe hra hrb hb3 HM2 HB2 hru2
    have HQ2 : Hid _ := hq
    have HST : Hid _ := hst
    have HR3 : Hid _ := hr3
    obtain ⟨c0, c1, c2, c3, c4, fz⟩ := hr3
    have M1 : Hid (w3.ownsRow 0 104 8 v l.length xs.flatten) := m1
    have M2 : Hid (∀ k, v.ownBlock = some k → w.heap.size ≤ k) := m2
    have M4 : Hid _ := m4
    clear m1 m2 m4 hq hst
    simp only [coreV, List.cons_append, List.nil_append]
    go_wp2_with (at_builtin; refine wpList_append_fresh rfl (.tmp 17) (.tmp 19) 59 rfl 0 104 iR (.agg #[.int .i64 0, .int .i64 0, .int .i64 0, .int .i64 0, .int .i64 0, .slice none 0 0, .slice none 0 0, .slice none 0 0]) 8 112 Tryz.underlying59 hiR hzR hsR hbR rfl (by decide) v l.length xs.flatten (by rfl) (by exact (M1.out.alloc _).alloc _) ⟨w3.heap.size + 1, 0, none⟩ 1 1 [.int .i64 rule.1.kind, .int .i64 rule.1.place, .int .i64 rule.1.name, .int .i64 rule.1.label, .int .i64 rule.1.count, .slice ae ne ce, .slice aa na ca, .slice ab nb cb] (by rfl) rfl (by exact eight_at _ _ (by simp) _ _ _ _ _ _ _ _ 104) (by intro q hq; simp at hq; rcases hq with rfl | rfl | rfl | rfl | rfl | rfl | rfl | rfl <;> rfl) (by unfold maxLen; omega) (by omega) (Nat.zero_le _) (by decide) ?nxt)
    case nxt =>
     intro v' w4 hown hgrow hfr
     obtain ⟨mk, hr4, hb4⟩ := making_append rfl hb HB3.out HR3.out M1.out M2.out m3 M4.out HRU.out hown hgrow hfr
     have HM4 : Hid _ := mk
     have hlv := making_len HM3.out
     have hlv4 := making_len mk
     obtain ⟨g, cap, hv'⟩ := Joins.ownsRow_form hown (by omega)
     subst hv'
     have HR4 : Hid _ := hr4
     have HB4 : Hid _ := hb4
     clear c0 c1 c2 c3 c4 fz hgrow hfr hown hr4 hb4 mk
     go_wp2_with fail
     go_roundw
     case rel =>
      refine ⟨j', z1, l ++ [rule], _, rfl, HR4, HB4, HM4, HST.out.1.le, by rw [HST.out.1.depth]; exact hd', by simp; omega, fun hzb => ?_, ?_⟩
      ·have := HST.out.2
       have := HST.out.1.le
       rcases HST.out.2 with h5 | h5
       ·rw [hzb] at h5; cases h5
       ·omega
      ·have := HQ2.out
       exact ⟨this.1, by rw [List.append_assoc]; exact this.2⟩
     case measure =>
      rw [hlv]
      simp only [lenOfS]
      omega
   ·have hq := HQ.out
    rw [rulesL_stop (rule := fun r => ruleF s.data.toList n r) (halt := fun r => decide (s.data.toList.length ≤ r.pos)) hse] at hq
    simp only [List.append_nil] at hq
    have HQ2 : Hid _ := hq
    clear hq
    go_wp2_with fail
    refine (atEnd_but b s r' nilS _ HR'.out hs hpp).mono ?_
    rw [show decide (s.size ≤ r'.pos) = _ from hsl ▸ hse]
    rintro e w2 ⟨rfl, hr2, hb2⟩
    have HM2 : Hid (Making n w2 w.heap.size v l) := making_but HM.out hb2 hb
    have HB2 : Hid (But b w w2) := HB'.out.trans hb2
    clear HM HB' c0 c1 c2 c3 c4 fz hb2
    go_wp2_with fail
    go_ret
    refine ⟨v, rfl, ?_, ?_, HB2.out⟩
    ·rw [← HQ2.out.2]
     exact making_done HM2.out
    ·rw [← HQ2.out.1]
     exact hr2
  ·have hq := HQ.out
   rw [rulesL_bad hbad] at hq
   simp only [List.append_nil] at hq
   have HQ2 : Hid _ := hq
   rw [hbad] at c4
   clear hq
   go_wp2_with fail
   go_ret
   refine ⟨v, rfl, ?_, ?_, HB'.out⟩
   ·rw [← HQ2.out.2]
    exact making_done HM.out
   ·rw [← HQ2.out.1]
    exact HR'.out
end Go.Proofs.YtdgmoiflahoihabGreatDoor
