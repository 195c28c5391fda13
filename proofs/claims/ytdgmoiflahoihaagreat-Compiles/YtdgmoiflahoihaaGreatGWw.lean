import Derived.Test.YtdgmoiflahoihaaGreatRValw
import Derived.Test.YtdgmoiflahoihaaGreatVAw
import Derived.Test.YtdgmoiflahoihaaGreatPGenw
import Derived.Test.YtdgmoiflahoihaaGreatRDow

namespace Go.Proofs.YtdgmoiflahoihaaGreat
open Go.RowKit
set_option linter.unusedSimpArgs false
set_option linter.unusedVariables false
theorem icRow_app : ∀ (l r : List Ic), icRow (l ++ r) = icRow l ++ icRow r
 | [], r => rfl
 | x :: l, r => by simp [icRow, icRow_app l r]
structure WrAt (w : World) (b : Nat) (S : Nat → Prop) (l : List Ic) : Prop where
 row : ∃ v, w.cell? ⟨b, 0, none⟩ = some v ∧ w.ownsRow (b + 1) 64 4 v l.length (icRow l) ∧ ∀ k, v.ownBlock = some k → S k
 fz : ∀ o, w.frozen? ⟨b, o, none⟩ = false
theorem WrAt.lt {w : World} {b : Nat} {S : Nat → Prop} {l : List Ic} (h : WrAt w b S l) : b < w.heap.size := by
 obtain ⟨v, c, _⟩ := h.row
 exact World.block_lt_of_cell? w _ c
theorem WrAt.weak {w : World} {b : Nat} {S R : Nat → Prop} {l : List Ic} (h : WrAt w b S l) (hs : ∀ k, S k → R k) : WrAt w b R l := by
 obtain ⟨⟨v, c, ho, hS⟩, fz⟩ := h
 exact ⟨⟨v, c, ho, fun k hk => hs k (hS k hk)⟩, fz⟩
theorem WrAt.keep {w w' : World} {b B : Nat} {S : Nat → Prop} {l : List Ic} (h : WrAt w b S l) (hb : Below B w w') (hB : w.heap.size ≤ B) : WrAt w' b S l := by
 have hlt := h.lt
 obtain ⟨⟨v, c, ho, hS⟩, fz⟩ := h
 exact ⟨⟨v, (hb.cell (p := ⟨b, 0, none⟩) (by simp only; omega)).trans c, own_low ho hb hB, hS⟩, fun o => (hb.frozen (p := ⟨b, o, none⟩) (by simp only; omega)).trans (fz o)⟩
structure WStep (b : Nat) (S : Nat → Prop) (w w' : World) (l : List Ic) : Prop where
 here : WrAt w' b (fun k => S k ∨ w.heap.size ≤ k) l
 onto : Onto b S w w'
theorem WStep.trans {b : Nat} {S : Nat → Prop} {w w1 w2 : World} {l m : List Ic} (h : WStep b S w w1 l) (k : WStep b (fun i => S i ∨ w.heap.size ≤ i) w1 w2 m) : WStep b S w w2 m :=
 ⟨k.here.weak (fun i hi => by rcases hi with hi | hi; exact hi; exact .inr (Nat.le_trans h.onto.size hi)), h.onto.trans k.onto⟩
theorem WStep.pre {b : Nat} {S : Nat → Prop} {w W w' : World} {l : List Ic} (h : Below w.heap.size w W) (k : WStep b S W w' l) : WStep b S w w' l :=
 ⟨k.here.weak (fun i hi => by rcases hi with hi | hi; exact .inl hi; exact .inr (Nat.le_trans h.size hi)), k.onto.pre h⟩
theorem WStep.still {b : Nat} {S : Nat → Prop} {w w' : World} {l : List Ic} (h : WrAt w' b S l) (k : Below w.heap.size w w') : WStep b S w w' l :=
 ⟨h.weak (fun i hi => .inl hi), Onto.of_below k⟩
theorem ic_new (w : World) (x : Ic) (t : TypeId) : ∀ j u, (icRow [x])[j]? = some u → (w.alloc (.cells #[.int .i64 x.op, .int .i64 x.a, .int .i64 x.b, .int .i64 x.c] t)).cell? ((⟨w.heap.size, 0, none⟩ : Addr).add j) = some u := by
 intro j u h
 match j, h with
 | 0, h => simp [icRow] at h; subst h; simp [go_sem, Addr.add]
 | 1, h => simp [icRow] at h; subst h; simp [go_sem, Addr.add]
 | 2, h => simp [icRow] at h; subst h; simp [go_sem, Addr.add]
 | 3, h => simp [icRow] at h; subst h; simp [go_sem, Addr.add]
 | j + 4, h => simp [icRow] at h
set_option maxRecDepth 100000 in
set_option maxHeartbeats 1000000 in
theorem put_any (b : Nat) (S : Nat → Prop) (l : List Ic) (op a e c : Int) (w : World) (h : WrAt w b S l) (hl : l.length ≤ 100000) :
  Calls Tryz.prog 42 #[.pointer (some ⟨b, 0, none⟩), .int .i64 op, .int .i64 a, .int .i64 e, .int .i64 c] w fun r w' => r = .returned (.tuple #[]) ∧ WStep b S w w' (l ++ [⟨op, a, e, c⟩]) := by
 have hlt := h.lt
 obtain ⟨⟨v, hv, ho, hSS⟩, fz⟩ := h
 have HSS : Hid (∀ k, v.ownBlock = some k → S k) := hSS
 have HO : Hid (w.ownsRow (b + 1) 64 4 v l.length (icRow l)) := ho
 obtain ⟨iV, hiV, hzV, hsV, hbV⟩ := parts_of_info infoIns
 have HNE : Hid (v.ownBlock ≠ some b) := fun e => by have := (ho.lt b e).1; omega
 have hpos : 0 < l.length + 1 := by omega
 have m1 : l.length + 1 ≤ maxLen := by unfold maxLen; omega
 have m2 : (l.length + 1) * 32 ≤ 140737488355328 := by omega
 have m3 : ∀ ob, b + 1 ≤ (w.alloc ob).heap.size := fun ob => by simp; omega
 clear ho hSS
 go_enter Tryz.func42, Tryz.ntmps42
 go_wp2_with (at_builtin; refine wpList_append_fresh rfl (.tmp 14) (.tmp 20) 27 rfl (b + 1) 64 iV (.agg #[.int .i64 0, .int .i64 0, .int .i64 0, .int .i64 0]) 4 32 Tryz.underlying27 hiV hzV hsV hbV rfl (by decide) v l.length (icRow l) (by rfl) (by exact HO.out.alloc _) ⟨w.heap.size, 0, none⟩ 1 1 (icRow [⟨op, a, e, c⟩]) (by rfl) rfl (by exact ic_new w ⟨op, a, e, c⟩ 64) (by intro q hq; simp [icRow] at hq; rcases hq with rfl | rfl | rfl | rfl <;> rfl) m1 m2 (m3 _) (by decide) ?_; intro v' w2 hown hgrow hfr; have hk : w2.heap[b]? = w.heap[b]? := (hgrow.block b (by simp; omega) (fun e => HNE.out e.symm)).trans (Below.heap_alloc _ _ _ hlt); have q0 : w2.cell? ⟨b, 0, none⟩ = some v := (World.cell?_of_block (a := ⟨b, 0, none⟩) hk).trans hv; have q1 : ∀ o, w2.frozen? ⟨b, o, none⟩ = false := (fun o => (World.frozen?_of_block (a := ⟨b, o, none⟩) hk).trans (fz o)); have hon : Onto b S w w2 := ⟨hgrow.os, hgrow.tape, hgrow.output, (by have := hgrow.size; simp at this; omega), fun k hk hb hs => (hgrow.block k (by simp; omega) (fun e => hs (HSS.out k e.symm))).trans (Below.heap_alloc _ _ _ hk)⟩; obtain ⟨gn, capn, rfl⟩ := Joins.ownsRow_form hown hpos; have HOWN : Hid _ := hown; have HON : Hid (Onto b S w w2) := hon; have HFR : Hid _ := hfr; clear hown hon hgrow hk hfr)
 go_end0
 refine ⟨rfl, ⟨⟨.slice (some ⟨gn, 0, none⟩) (l.length + 1) capn, by simp [go_sem, q0], ?_, fun k hk => ?_⟩, fun o => by simp [go_sem, q1]⟩, HON.out.setCell _ _⟩
 ·rw [icRow_app, List.length_append]
  exact ownsRow_setCell_below HOWN.out (a := ⟨b, 0, none⟩) (by simp) _
 ·rcases HFR.out with e | ⟨g, hg, hl2⟩
  ·exact .inl (HSS.out k (by rw [← e]; exact hk))
  ·rw [hg] at hk
   cases hk
   exact .inr (by simp at hl2; omega)
theorem parts_form2 {w : World} {P : Nat → Prop} {v : Value} {l : List Pt} (h : PartsV w P v l) :
  ∃ ao g cap, v = .slice ao l.length cap ∧ ∀ i, ∀ hi : i < l.length, ao = some ⟨g, 0, none⟩ ∧ P g ∧ w.cell? ⟨g, i * 2, none⟩ = some (.int .i64 l[i].op) ∧ w.cell? ⟨g, i * 2 + 1, none⟩ = some (.int .i64 l[i].num) := by
 obtain ⟨ao, g, cap, hv, hc⟩ := parts_form h
 refine ⟨ao, g, cap, hv, fun i hi => ?_⟩
 obtain ⟨h1, _, h3, h4⟩ := hc i hi
 exact ⟨h1, h.2 g (by rw [hv, h1]; rfl), h3, h4⟩
theorem exprI_op {p : Pt} {r : List Pt} {top : Int} (h1 : ¬ (p.op = 1 ∨ p.op = 2)) (h3 : ¬ p.op = 3) : exprI (p :: r) top = ⟨p.op, top - 1 - 1, top - 1 - 1, top - 1⟩ :: exprI r (top - 1) := by
 conv => lhs; unfold exprI
 rw [if_neg h1, if_neg h3]
set_option maxRecDepth 100000 in
set_option maxHeartbeats 4000000 in
theorem gexpr_any (b : Nat) (S : Nat → Prop) (l : List Ic) (P : List Pt) (Q : Nat → Prop) (v : Value) (w : World) (h : WrAt w b S l) (hl : l.length + P.length ≤ 100000) (hP : P.length ≤ 1000) (hv : PartsV w Q v P) (hQ : ∀ k, Q k → k < b) (hSb : ∀ k, S k → b < k) :
  Calls Tryz.prog 90 #[.pointer (some ⟨b, 0, none⟩), v] w fun r w' => r = .returned (.tuple #[]) ∧ WStep b S w w' (l ++ exprI P 35) := by
 obtain ⟨ao, g, cap, rfl, hcells⟩ := parts_form2 hv
 have hlt0 := h.lt
 have HC : Hid _ := hcells
 have HST0 : Hid (WStep b S w w l) := WStep.still h (Below.refl _ _)
 have HQ : Hid (∀ k, Q k → k < b) := hQ
 have HSB : Hid (∀ k, S k → b < k) := hSb
 generalize hR : l ++ exprI P 35 = R
 have HR : Hid (l ++ exprI (P.drop 0) 35 = R) := hR
 clear hcells hv hR h hQ hSb
 go_enter Tryz.func90, Tryz.ntmps90
 go_wp2_with fail
 go_loopw [4, 9] (fun t x w' => ∃ (k : Nat) (top : Int) (m : List Ic), x = .int .i64 k ∧ t = .int .i64 top ∧ k ≤ P.length ∧ 35 - (k : Int) ≤ top ∧ top ≤ 35 + (k : Int) ∧ m.length = l.length + k ∧ Hid (WStep b S w w' m) ∧ Hid (m ++ exprI (P.drop k) top = R)) (fun _ x _ => P.length - (intOf x).toNat)
 case atStart => exact ⟨0, 35, l, rfl, rfl, by omega, by omega, by omega, by omega, HST0, HR⟩
 case round =>
  obtain ⟨k, top, m, rfl, rfl, hk, ht1, ht2, hm, HST, HL⟩ := hrel
  by_cases hlt : k < P.length
  ·have tk : decide ((k : Int) < (P.length : Int)) = true := by simp; omega
   obtain ⟨e0, hqg, c0, c1⟩ := HC.out k hlt
   have hgb : g < b := HQ.out g hqg
   have hBl : Below b w wr := HST.out.onto.below hlt0 HSB.out
   have hlr : b < wr.heap.size := HST.out.here.lt
   rw [← hBl.cell (p := ⟨g, k * 2, none⟩) hgb] at c0
   rw [← hBl.cell (p := ⟨g, k * 2 + 1, none⟩) hgb] at c1
   have hLL := HL.out
   rw [List.drop_eq_getElem_cons hlt] at hLL
   generalize P[k] = p at *
   obtain ⟨po, pn⟩ := p
   simp only at c0 c1
   have HBA : Hid (Below wr.heap.size wr (wr.alloc (.cells #[.int .i64 po, .int .i64 pn] 152))) := (Below.refl _ _).alloc (Nat.le_refl _) _
   have HWR : Hid (WrAt (wr.alloc (.cells #[.int .i64 po, .int .i64 pn] 152)) b (fun k => S k ∨ w.heap.size ≤ k) m) := HST.out.here.keep HBA.out (Nat.le_refl _)
   have i0 : (0 : Int) ≤ (k : Int) := by omega
   have i1 : (k : Int) < (P.length : Int) := by omega
   subst e0
   clear hBl
   by_cases h1 : po = 1
   ·subst h1
    have HN : Hid ((m ++ [⟨1, top, pn, 0⟩]) ++ exprI (P.drop (k + 1)) (top + 1) = R) := by show _ = _; rw [← hLL]; simp [exprI]
    clear hLL HL
    go_wp2_with (go_at_call 42; refine (put_any b _ m _ _ _ _ _ HWR.out (by omega)).mono ?_; rintro r1 w1 ⟨rfl, hs1⟩; have HS1 : Hid (WStep b S w w1 _) := HST.out.trans (hs1.pre HBA.out); clear hs1)
    go_roundw
    case rel => exact ⟨k + 1, top + 1, _, by go_num, rfl, by omega, by omega, by omega, by simp; omega, HS1, HN⟩
    case measure => simp [intOf]; omega
   by_cases h2 : po = 2
   ·subst h2
    have HN : Hid ((m ++ [⟨2, top, pn, 0⟩]) ++ exprI (P.drop (k + 1)) (top + 1) = R) := by show _ = _; rw [← hLL]; simp [exprI]
    clear hLL HL
    go_wp2_with (go_at_call 42; refine (put_any b _ m _ _ _ _ _ HWR.out (by omega)).mono ?_; rintro r1 w1 ⟨rfl, hs1⟩; have HS1 : Hid (WStep b S w w1 _) := HST.out.trans (hs1.pre HBA.out); clear hs1)
    go_roundw
    case rel => exact ⟨k + 1, top + 1, _, by go_num, rfl, by omega, by omega, by omega, by simp; omega, HS1, HN⟩
    case measure => simp [intOf]; omega
   by_cases h3 : po = 3
   ·subst h3
    have HN : Hid ((m ++ [⟨3, top - 1, top - 1, 0⟩]) ++ exprI (P.drop (k + 1)) top = R) := by show _ = _; rw [← hLL]; simp [exprI]
    clear hLL HL
    go_wp2_with (go_at_call 42; refine (put_any b _ m _ _ _ _ _ HWR.out (by omega)).mono ?_; rintro r1 w1 ⟨rfl, hs1⟩; have HS1 : Hid (WStep b S w w1 _) := HST.out.trans (hs1.pre HBA.out); clear hs1)
    go_roundw
    case rel => exact ⟨k + 1, top, _, by go_num, rfl, by omega, by omega, by omega, by simp; omega, HS1, HN⟩
    case measure => simp [intOf]; omega
   ·have HN : Hid ((m ++ [⟨po, top - 1 - 1, top - 1 - 1, top - 1⟩]) ++ exprI (P.drop (k + 1)) (top - 1) = R) := by show _ = _; rw [← hLL, exprI_op (by simp only; omega) h3]; simp
    have t1 : (po == 1) = false := by simpa using h1
    have t2 : (po == 2) = false := by simpa using h2
    have t3 : (po == 3) = false := by simpa using h3
    clear hLL HL h1 h2 h3
    go_wp2_with (go_at_call 42; refine (put_any b _ m _ _ _ _ _ HWR.out (by omega)).mono ?_; rintro r1 w1 ⟨rfl, hs1⟩; have HS1 : Hid (WStep b S w w1 _) := HST.out.trans (hs1.pre HBA.out); clear hs1)
    go_roundw
    case rel => exact ⟨k + 1, top - 1, _, by go_num, rfl, by omega, by omega, by omega, by simp; omega, HS1, HN⟩
    case measure => simp [intOf]; omega
  ·have tk : decide ((k : Int) < (P.length : Int)) = false := by simp; omega
   have HF : Hid (m = R) := by
    have := HL.out
    rw [List.drop_of_length_le (by omega)] at this
    show _ = _
    simpa [exprI] using this
   go_wp2_with fail
   go_end0
   rw [← HF.out]
   exact ⟨rfl, HST.out⟩
end Go.Proofs.YtdgmoiflahoihaaGreat
namespace Go.Proofs.YtdgmoiflahoihaaGreat
open Go.RowKit
set_option linter.unusedSimpArgs false
set_option linter.unusedVariables false
def GenCalls (n : Nat) : Prop := ∀ (b : Nat) (S : Nat → Prop) (l : List Ic) (r : List (RT n)) (loops : Nat) (P : Nat → Prop) (v : Value) (w : World), TreeOk n r → l.length + (genF n l.length loops r).length ≤ 100000 → loops + n ≤ 100 → WrAt w b S l → RulesV n w P v r → (∀ k, P k → k < b) → (∀ k, S k → b < k) →
 Calls Tryz.prog 41 #[.pointer (some ⟨b, 0, none⟩), v, .int .i64 loops] w fun e w' => e = .returned (.tuple #[]) ∧ WStep b S w w' (l ++ genF n l.length loops r)
theorem own_set {w : World} {base size n g j : Nat} {e : TypeId} {v u : Value} {xs : List Value} (h : w.ownsRow base e size v n xs) (hg : v.ownBlock = some g) (hj : j < xs.length) : (w.setCell ⟨g, j, none⟩ u).ownsRow base e size v n (xs.set j u) := by
 rcases h.2 with ⟨rfl, _⟩ | ⟨g', cap, cur, rfl, hb, hh, h1, h2, h3, h4⟩
 ·simp [Value.ownBlock] at hg
 ·simp [Value.ownBlock] at hg
  subst hg
  refine ⟨by simp [h.1], .inr ⟨g', cap, cur.setIfInBounds j u, rfl, hb, ?_, h1, h2, by simp [h3], ?_⟩⟩
  ·unfold World.setCell
   simp only [Array.getElem?_modify, hh, if_true, Option.map_some, Option.isSome_none, Bool.false_eq_true, if_false]
  ·rw [Array.toList_setIfInBounds, List.take_set, h4]
theorem ic_setA : ∀ (A : List Ic) (x : Ic) (R : List Ic) (u : Int), (icRow (A ++ x :: R)).set (A.length * 4 + 1) (.int .i64 u) = icRow (A ++ { x with a := u } :: R)
 | [], x, R, u => rfl
 | y :: A, x, R, u => by
  simp only [List.cons_append, icRow, List.length_cons]
  rw [show (A.length + 1) * 4 + 1 = (A.length * 4 + 1) + 1 + 1 + 1 + 1 by omega]
  simp only [List.set_cons_succ]
  rw [ic_setA A x R u]
theorem ic_setB : ∀ (A : List Ic) (x : Ic) (R : List Ic) (u : Int), (icRow (A ++ x :: R)).set (A.length * 4 + 2) (.int .i64 u) = icRow (A ++ { x with b := u } :: R)
 | [], x, R, u => rfl
 | y :: A, x, R, u => by
  simp only [List.cons_append, icRow, List.length_cons]
  rw [show (A.length + 1) * 4 + 2 = (A.length * 4 + 2) + 1 + 1 + 1 + 1 by omega]
  simp only [List.set_cons_succ]
  rw [ic_setB A x R u]
theorem ic_setC : ∀ (A : List Ic) (x : Ic) (R : List Ic) (u : Int), (icRow (A ++ x :: R)).set (A.length * 4 + 3) (.int .i64 u) = icRow (A ++ { x with c := u } :: R)
 | [], x, R, u => rfl
 | y :: A, x, R, u => by
  simp only [List.cons_append, icRow, List.length_cons]
  rw [show (A.length + 1) * 4 + 3 = (A.length * 4 + 3) + 1 + 1 + 1 + 1 by omega]
  simp only [List.set_cons_succ]
  rw [ic_setC A x R u]
theorem WrAt.narrow {w : World} {b : Nat} {S : Nat → Prop} {l : List Ic} (h : WrAt w b S l) : WrAt w b (fun k => S k ∧ k < w.heap.size) l := by
 obtain ⟨⟨v, c, ho, hS⟩, fz⟩ := h
 exact ⟨⟨v, c, ho, fun k hk => ⟨hS k hk, (ho.lt k hk).2⟩⟩, fz⟩
theorem WStep.wide {b : Nat} {R S : Nat → Prop} {w w' : World} {l : List Ic} (h : WStep b R w w' l) (hs : ∀ k, R k → S k) : WStep b S w w' l :=
 ⟨h.here.weak (fun i hi => by rcases hi with hi | hi; exact .inl (hs i hi); exact .inr hi), ⟨h.onto.os, h.onto.tape, h.onto.output, h.onto.size, fun k hk hb hn => h.onto.block k hk hb (fun e => hn (hs k e))⟩⟩
theorem WrAt.form {w : World} {b : Nat} {S : Nat → Prop} {l : List Ic} (h : WrAt w b S l) : ∃ ao cap, w.cell? ⟨b, 0, none⟩ = some (.slice ao l.length cap) := by
 obtain ⟨⟨v, c, ho, _⟩, _⟩ := h
 rcases Joins.ownsRow_forms ho with ⟨rfl, h0⟩ | ⟨g, cap, rfl⟩
 ·exact ⟨none, 0, by rw [c, h0]⟩
 ·exact ⟨_, _, c⟩
theorem WrAt.open {w : World} {b : Nat} {S : Nat → Prop} {l : List Ic} (h : WrAt w b S l) (hl : 0 < l.length) : ∃ g cap, w.cell? ⟨b, 0, none⟩ = some (.slice (some ⟨g, 0, none⟩) l.length cap) ∧ S g ∧ b < g ∧ g < w.heap.size ∧ (∀ j, j < l.length * 4 → ∃ u, w.cell? ⟨g, j, none⟩ = some u) ∧ (∀ o, w.frozen? ⟨g, o, none⟩ = false) ∧ w.ownsRow (b + 1) 64 4 (.slice (some ⟨g, 0, none⟩) l.length cap) l.length (icRow l) := by
 obtain ⟨⟨v, c, ho, hS⟩, _⟩ := h
 have hln := icRow_length l
 obtain ⟨g, cap, rfl⟩ := Joins.ownsRow_form ho hl
 obtain ⟨h1, h2⟩ := ho.lt g rfl
 refine ⟨g, cap, c, hS g rfl, by omega, h2, fun j hj => ?_, fun o => ?_, ho⟩
 ·exact ⟨_, (ho.cellAt j (by omega)).trans (List.getElem?_eq_getElem (by omega))⟩
 ·rcases ho.2 with ⟨he, _⟩ | ⟨g', cap', cur, he, hb, hh, _⟩
  ·cases he
  ·cases he
   simp [World.frozen?, hh]
theorem WrAt.patch {w : World} {b g cap j : Nat} {S : Nat → Prop} {l l' : List Ic} {u : Value} (h : WrAt w b S l) (hc : w.cell? ⟨b, 0, none⟩ = some (.slice (some ⟨g, 0, none⟩) l.length cap)) (hj : j < l.length * 4) (he : (icRow l).set j u = icRow l') (hl : l'.length = l.length) (hgb : b < g) : WrAt (w.setCell ⟨g, j, none⟩ u) b S l' ∧ (w.setCell ⟨g, j, none⟩ u).cell? ⟨b, 0, none⟩ = some (.slice (some ⟨g, 0, none⟩) l'.length cap) := by
 have hcc : (w.setCell ⟨g, j, none⟩ u).cell? ⟨b, 0, none⟩ = some (.slice (some ⟨g, 0, none⟩) l'.length cap) := by
  rw [hl]
  simp [go_sem, hc, show ¬ g = b by omega]
 refine ⟨?_, hcc⟩
 obtain ⟨⟨v, c, ho, hS⟩, fz⟩ := h
 rw [hc] at c
 cases c
 have hln := icRow_length l
 refine ⟨⟨_, hcc, ?_, hS⟩, fun o => by simp [go_sem, fz]⟩
 rw [← he, hl]
 exact own_set ho rfl (by omega)
theorem Onto.setRow {b g : Nat} {S : Nat → Prop} {w w' : World} (h : Onto b S w w') (hg : S g ∨ w.heap.size ≤ g) (o : Nat) (u : Value) : Onto b S w (w'.setCell ⟨g, o, none⟩ u) :=
 ⟨h.os, h.tape, h.output, by simpa using h.size, fun k hk hb hs => (Below.heap_setCell _ _ _ _ (fun e => by have e' : k = g := e; rcases hg with hg | hg; exact hs (e' ▸ hg); omega)).trans (h.block k hk hb hs)⟩
set_option maxRecDepth 100000 in
set_option maxHeartbeats 8000000 in
theorem gcond_any (n : Nat) (ih : GenCalls n) (b : Nat) (S : Nat → Prop) (l : List Ic) (q : Core × List (RT n) × List (RT n)) (loops : Nat) (P : Nat → Prop) (ve v1 v2 : Value) (w : World) (hc : CoreOk q.1) (h1 : TreeOk n q.2.1) (h2 : TreeOk n q.2.2) (hw : l.length + (genT (genF n) l.length loops q).length ≤ 100000) (hlo : loops + n ≤ 99) (hS : WrAt w b S l) (hve : PartsV w P ve q.1.parts) (hr1 : RulesV n w P v1 q.2.1) (hr2 : RulesV n w P v2 q.2.2) (hP : ∀ k, P k → k < b) (hSb : ∀ k, S k → b < k) (hk : q.1.kind = 3) :
  Calls Tryz.prog 91 #[.pointer (some ⟨b, 0, none⟩), .agg #[.int .i64 q.1.kind, .int .i64 q.1.place, .int .i64 q.1.name, .int .i64 q.1.label, .int .i64 q.1.count, ve, v1, v2], .int .i64 loops] w fun e w' => e = .returned (.tuple #[]) ∧ WStep b S w w' (l ++ genT (genF n) l.length loops q) := by
 obtain ⟨c, l1, l2⟩ := q
 simp only at *
 have hlw := hS.lt
 have hle := exprI_len c.parts 35
 have hG : genT (genF n) l.length loops (c, l1, l2) = exprI c.parts 35 ++ (⟨13, 35, (l.length + (exprI c.parts 35).length + 1 + (genF n (l.length + (exprI c.parts 35).length + 1) loops l1).length + 1 : Nat), (l.length + (exprI c.parts 35).length + 1 + (genF n (l.length + (exprI c.parts 35).length + 1) loops l1).length + 1 + (genF n (l.length + (exprI c.parts 35).length + 1 + (genF n (l.length + (exprI c.parts 35).length + 1) loops l1).length + 1) loops l2).length : Nat)⟩ ::
   (genF n (l.length + (exprI c.parts 35).length + 1) loops l1 ++ (⟨12, (l.length + (exprI c.parts 35).length + 1 + (genF n (l.length + (exprI c.parts 35).length + 1) loops l1).length + 1 + (genF n (l.length + (exprI c.parts 35).length + 1 + (genF n (l.length + (exprI c.parts 35).length + 1) loops l1).length + 1) loops l2).length : Nat), 0, 0⟩ ::
    genF n (l.length + (exprI c.parts 35).length + 1 + (genF n (l.length + (exprI c.parts 35).length + 1) loops l1).length + 1) loops l2))) := by
  unfold genT
  simp only [hk]
  rfl
 rw [hG] at hw ⊢
 obtain ⟨ae, ne, ce, hvee⟩ : ∃ aa nn cc, ve = .slice aa nn cc := by
  rcases Joins.ownsRow_forms hve.1 with ⟨rfl, _⟩ | ⟨g, cap, rfl⟩ <;> exact ⟨_, _, _, rfl⟩
 subst hvee
 obtain ⟨a1, n1, c1, hv1⟩ := rulesV_form hr1
 obtain ⟨a2, n2, c2, hv2⟩ := rulesV_form hr2
 have hEV : v1 = .slice a1 n1 c1 ∧ v2 = .slice a2 n2 c2 := ⟨hv1, hv2⟩
 clear hv1 hv2
 obtain ⟨rfl, rfl⟩ := hEV
 generalize hW : w.alloc (.cells #[.int .i64 c.kind, .int .i64 c.place, .int .i64 c.name, .int .i64 c.label, .int .i64 c.count, .slice ae ne ce, .slice a1 n1 c1, .slice a2 n2 c2] 115) = W
 have HWe : Hid _ := hW
 have hBB : Below w.heap.size w W := by rw [← hW]; exact (Below.refl _ _).alloc (Nat.le_refl _) _
 have hWs : W.heap.size = w.heap.size + 1 := by rw [← hW]; simp
 have q5 : W.cell? ⟨w.heap.size, 5, none⟩ = some (.slice ae ne ce) := by rw [← hW]; simp [go_sem]
 have q6 : W.cell? ⟨w.heap.size, 6, none⟩ = some (.slice a1 n1 c1) := by rw [← hW]; simp [go_sem]
 have q7 : W.cell? ⟨w.heap.size, 7, none⟩ = some (.slice a2 n2 c2) := by rw [← hW]; simp [go_sem]
 have HVE : Hid (PartsV W P (.slice ae ne ce) c.parts) := partsV_below hve hBB
 have HR1 : Hid (RulesV n W P (.slice a1 n1 c1) l1) := rulesV_below hr1 hBB
 have HR2 : Hid (RulesV n W P (.slice a2 n2 c2) l2) := rulesV_below hr2 hBB
 have HWR : Hid (WrAt W b (fun k => S k ∧ k < w.heap.size) l) := hS.narrow.keep hBB (Nat.le_refl _)
 have HBW : Hid (Below w.heap.size w W) := hBB
 have H1 : Hid (TreeOk n l1) := h1
 have H2 : Hid (TreeOk n l2) := h2
 have HP : Hid (∀ k, P k → k < b) := hP
 have HSB : Hid (∀ k, (S k ∧ k < w.heap.size) → b < k) := fun k hk => hSb k hk.1
 have HSB2 : Hid (∀ k, ((S k ∧ k < w.heap.size) ∨ W.heap.size ≤ k) → b < k) := fun k hk => by rcases hk with hk | hk; exact hSb k hk.1; omega
 have HKEEP : Hid (∀ (w' : World) (m : List Ic), WStep b (fun k => S k ∧ k < w.heap.size) W w' m → ∀ o, w'.cell? ⟨w.heap.size, o, none⟩ = W.cell? ⟨w.heap.size, o, none⟩) := fun w' m h o => World.cell?_of_block (a := ⟨w.heap.size, o, none⟩) (h.onto.block w.heap.size (by omega) (by omega) (fun e => absurd e.2 (Nat.lt_irrefl _)))
 have IH : Hid (GenCalls n) := ih
 have hfew := hc.few
 have HEV : Hid (∀ (w' : World) (m : List Ic), WStep b (fun k => S k ∧ k < w.heap.size) W w' m → Below b W w') := fun w' m h => h.onto.below (by omega) HSB.out
 clear hve hr1 hr2 hS hc h1 h2 hP hSb ih hBB hW hG hk
 simp only [List.length_append, List.length_cons] at hw
 rw [hle] at hw ⊢
 generalize hL1 : l ++ exprI c.parts 35 = L1
 have hL1l : L1.length = l.length + c.parts.length := by rw [← hL1]; simp [hle]
 have HL1 : Hid (l ++ exprI c.parts 35 = L1) := hL1
 generalize hF : genF n (l.length + c.parts.length + 1) loops l1 = F at *
 generalize hP2 : l.length + c.parts.length + 1 + F.length + 1 = P2 at *
 generalize hG : genF n P2 loops l2 = G at *
 have HF : Hid (genF n (L1.length + 1) loops l1 = F) := by rw [hL1l]; exact hF
 have HG : Hid (genF n P2 loops l2 = G) := hG
 obtain ⟨J, hJ⟩ : ∃ J, J = L1.length + 1 + F.length := ⟨_, rfl⟩
 have HJ : Hid (J = L1.length + 1 + F.length) := hJ
 have hJ1 : L1.length < J := by omega
 have hJ2 : J < P2 + G.length := by omega
 have HP2L : Hid (P2 = L1.length + 1 + F.length + 1) := by show _ = _; omega
 have hw2 : L1.length + 1 + F.length + 1 + G.length ≤ 100000 := by omega
 have hw3 : P2 + G.length ≤ 100000 := by omega
 have HEND : Hid (L1 ++ ⟨13, 35, (P2 : Nat), (P2 + G.length : Nat)⟩ :: (F ++ (⟨12, (P2 + G.length : Nat), 0, 0⟩ :: G)) = l ++ (exprI c.parts 35 ++ (⟨13, 35, (P2 : Nat), (P2 + G.length : Nat)⟩ :: (F ++ (⟨12, (P2 + G.length : Nat), 0, 0⟩ :: G))))) := by show _ = _; rw [← hL1]; simp
 rw [← HEND.out]
 have hw4 : l.length + c.parts.length ≤ 100000 := by omega
 clear hL1 hF hG hP2 HEND hL1l hw hle hJ
 go_enter Tryz.func91, Tryz.ntmps91
 go_upto_region 1 with fail
 rw [HWe.out]
 go_upto_region 5 with (first | (go_at_call 90; refine (gexpr_any b _ l c.parts P _ _ HWR.out (by omega) hfew HVE.out HP.out HSB.out).mono ?_; rw [HL1.out]; rintro r1 w1 ⟨rfl, hs1⟩; obtain ⟨ao1, cap1, d1⟩ := hs1.here.form; have HS1 : Hid (WStep b (fun k => S k ∧ k < w.heap.size) W w1 L1) := hs1; clear hs1) | (go_at_call 42; refine (put_any b _ L1 _ _ _ _ _ HS1.out.here (by omega)).mono ?_; rintro r2 w2 ⟨rfl, hs2⟩; have HS2 : Hid (WStep b (fun k => S k ∧ k < w.heap.size) W w2 (L1 ++ [⟨13, 35, 0, 0⟩])) := HS1.out.trans hs2; have d2 := (HKEEP.out _ _ HS2.out 6).trans q6; clear hs2) | (go_at_call 41; refine (IH.out b _ (L1 ++ [⟨13, 35, 0, 0⟩]) l1 loops P _ _ H1.out (by simp only [List.length_append, List.length_cons, List.length_nil]; rw [HF.out]; omega) (by omega) HS2.out.here (rulesV_lower HR1.out HP.out (HEV.out _ _ HS2.out)) HP.out HSB2.out).mono ?_; rw [show (L1 ++ [(⟨13, 35, 0, 0⟩ : Ic)]).length = L1.length + 1 by simp, HF.out]; rintro r3 w3 ⟨rfl, hs3⟩; have HS3 : Hid (WStep b (fun k => S k ∧ k < w.heap.size) W w3 (L1 ++ [⟨13, 35, 0, 0⟩] ++ F)) := HS2.out.trans hs3; clear hs3))
 obtain ⟨ao3, cap3, d3⟩ := HS3.out.here.form
 rw [show (L1 ++ [(⟨13, 35, 0, 0⟩ : Ic)] ++ F).length = J by have h9 := HJ.out; simp; omega] at d3
 go_upto_region 6 with fail
 go_wp2_with fail
 refine (put_any b _ _ _ _ _ _ _ HS3.out.here (by simp; omega)).mono ?_
 rintro r4 w4 ⟨rfl, hs4⟩
 have HS4 : Hid (WStep b (fun k => S k ∧ k < w.heap.size) W w4 (L1 ++ [⟨13, 35, 0, 0⟩] ++ F ++ [⟨12, 0, 0, 0⟩])) := HS3.out.trans hs4
 obtain ⟨ao4, cap4, d4⟩ := hs4.here.form
 have E4 : Hid ((L1 ++ [(⟨13, 35, 0, 0⟩ : Ic)] ++ F ++ [(⟨12, 0, 0, 0⟩ : Ic)]).length = P2) := by have h9 := HP2L.out; show _ = _; simp; omega
 rw [E4.out] at d4
 have d7 := (HKEEP.out _ _ HS4.out 7).trans q7
 clear hs4
 go_wp2_with fail
 refine (IH.out b _ _ l2 loops P _ _ H2.out (by rw [E4.out, HG.out]; omega) (by omega) HS4.out.here (rulesV_lower HR2.out HP.out (HEV.out _ _ HS4.out)) HP.out HSB2.out).mono ?_
 rw [E4.out, HG.out]
 rintro r5 w5 ⟨rfl, hs5'⟩
 have HS5 : Hid (WStep b (fun k => S k ∧ k < w.heap.size) W w5 (L1 ++ [⟨13, 35, 0, 0⟩] ++ F ++ [⟨12, 0, 0, 0⟩] ++ G)) := HS4.out.trans hs5'
 clear hs5'
 have e5 : L1 ++ [(⟨13, 35, 0, 0⟩ : Ic)] ++ F ++ [⟨12, 0, 0, 0⟩] ++ G = L1 ++ ⟨13, 35, 0, 0⟩ :: (F ++ ⟨12, 0, 0, 0⟩ :: G) := by simp
 have hs5 := HS5.out
 rw [e5] at hs5
 have e6 : (L1 ++ (⟨13, 35, 0, 0⟩ : Ic) :: (F ++ ⟨12, 0, 0, 0⟩ :: G)).length = P2 + G.length := by have h9 := HP2L.out; simp; omega
 obtain ⟨g5, cap5, d5, hSg, hbg, hgl, hcell, hfz, hown⟩ := hs5.here.open (by rw [e6]; omega)
 have hc5 := d5
 rw [e6] at d5 hcell
 obtain ⟨u2, k2⟩ := hcell (L1.length * 4 + 2) (by omega)
 obtain ⟨u3, k3⟩ := hcell (L1.length * 4 + 3) (by omega)
 obtain ⟨u1, k1⟩ := hcell (J * 4 + 1) (by omega)
 have n1 : ¬ L1.length * 4 + 2 = J * 4 + 1 := by omega
 have n2 : ¬ L1.length * 4 + 3 = J * 4 + 1 := by omega
 have n3 : ¬ g5 = b := by omega
 have z1 : (0 : Int) ≤ (L1.length : Int) := by omega
 have z2 : (L1.length : Int) < ((P2 + G.length : Nat) : Int) := by omega
 have z3 : (0 : Int) ≤ (J : Int) := by omega
 have z4 : (J : Int) < ((P2 + G.length : Nat) : Int) := by omega
 obtain ⟨N, hN⟩ : ∃ N, N = P2 + G.length := ⟨_, rfl⟩
 rw [← hN] at d5 z2 z4
 have HS6 : Hid (WStep b (fun k => S k ∧ k < w.heap.size) W w5 (L1 ++ ⟨13, 35, 0, 0⟩ :: (F ++ ⟨12, 0, 0, 0⟩ :: G))) := hs5
 have HC5 : Hid _ := hc5
 have HCC : Hid _ := hcell
 have HN : Hid (N = P2 + G.length) := hN
 have HSG : Hid _ := hSg
 have E6 : Hid _ := e6
 have hN2 : N ≤ 100000 := by omega
 clear hs5 HS5 e5 hown hc5 hcell hN hSg e6
 go_wp2_with fail
 go_end0
 rw [← HN.out]
 refine ⟨rfl, WStep.pre HBW.out (WStep.wide (R := fun k => S k ∧ k < w.heap.size) ?_ (fun k hk => hk.1))⟩
 obtain ⟨p1, x1⟩ := HS6.out.here.patch HC5.out (j := L1.length * 4 + 2) (u := .int .i64 P2) (l' := L1 ++ ⟨13, 35, P2, 0⟩ :: (F ++ ⟨12, 0, 0, 0⟩ :: G)) (by rw [E6.out]; omega) (ic_setB L1 ⟨13, 35, 0, 0⟩ _ P2) (by simp) hbg
 obtain ⟨p2, x2⟩ := p1.patch x1 (j := L1.length * 4 + 3) (u := .int .i64 N) (l' := L1 ++ ⟨13, 35, P2, N⟩ :: (F ++ ⟨12, 0, 0, 0⟩ :: G)) (by have := E6.out; simp at this ⊢; omega) (ic_setC L1 ⟨13, 35, P2, 0⟩ _ N) (by simp) hbg
 have e7 : ∀ x : Ic, L1 ++ (⟨13, 35, P2, N⟩ : Ic) :: (F ++ x :: G) = (L1 ++ ⟨13, 35, P2, N⟩ :: F) ++ x :: G := fun x => by simp
 have e8 : (L1 ++ (⟨13, 35, P2, N⟩ : Ic) :: F).length = J := by have := HJ.out; simp; omega
 have hset := ic_setA (L1 ++ ⟨13, 35, P2, N⟩ :: F) ⟨12, 0, 0, 0⟩ G N
 rw [e8, ← e7, ← e7] at hset
 obtain ⟨p3, x3⟩ := p2.patch x2 (j := J * 4 + 1) (u := .int .i64 N) (l' := L1 ++ ⟨13, 35, P2, N⟩ :: (F ++ ⟨12, N, 0, 0⟩ :: G)) (by have := E6.out; simp at this ⊢; omega) hset (by simp) hbg
 exact ⟨p3, ((HS6.out.onto.setRow HSG.out _ _).setRow HSG.out _ _).setRow HSG.out _ _⟩
end Go.Proofs.YtdgmoiflahoihaaGreat
