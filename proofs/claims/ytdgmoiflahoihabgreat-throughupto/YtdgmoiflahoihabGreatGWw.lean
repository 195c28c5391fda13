import Derived.Test.YtdgmoiflahoihabGreatRStw
import Derived.Test.YtdgmoiflahoihabGreatVAw
import Derived.Test.YtdgmoiflahoihabGreatXTopw

namespace Go.Proofs.YtdgmoiflahoihabGreat
open Go.RowKit
set_option linter.unusedSimpArgs false
set_option linter.unusedVariables false
theorem icRow_app : ∀ (l r : List Ic), icRow (l ++ r) = icRow l ++ icRow r
 | [], r => rfl
 | x :: l, r => by simp [icRow, icRow_app l r]
structure WrAt (w : World) (b : Nat) (S : Nat → Prop) (l : List Ic) : Prop where
 row : ∃ v, w.cell? ⟨b, 0, none⟩ = some v ∧ w.ownsRow (b + 1) 73 4 v l.length (icRow l) ∧ ∀ k, v.ownBlock = some k → S k
 fz : ∀ o, w.frozen? ⟨b, o, none⟩ = false
theorem WrAt.lt {w : World} {b : Nat} {S : Nat → Prop} {l : List Ic} (h : WrAt w b S l) : b < w.heap.size := by
 obtain ⟨v, c, _⟩ := h.row
 exact World.block_lt_of_cell? w _ c
theorem WrAt.weak {w : World} {b : Nat} {S R : Nat → Prop} {l : List Ic} (h : WrAt w b S l) (hs : ∀ k, S k → R k) : WrAt w b R l := by
 obtain ⟨⟨v, c, ho, hS⟩, fz⟩ := h
 exact ⟨⟨v, c, ho, fun k hk => hs k (hS k hk)⟩, fz⟩
theorem WrAt.keep {w w' : World} {b B : Nat} {S : Nat → Prop} {l : List Ic} (h : WrAt w b S l) (hb : Below B w w') (hB : w.heap.size ≤ B) : WrAt w' b S l := by
 have hlt := h.lt
 obtain ⟨⟨v, c, ho, hS⟩, fz⟩ := h
 exact ⟨⟨v, (hb.cell (p := ⟨b, 0, none⟩) (by simp only; omega)).trans c, own_low ho hb hB, hS⟩, fun o => (hb.frozen (p := ⟨b, o, none⟩) (by simp only; omega)).trans (fz o)⟩
structure WStep (b : Nat) (S : Nat → Prop) (w w' : World) (l : List Ic) : Prop where
 here : WrAt w' b (fun k => S k ∨ w.heap.size ≤ k) l
 onto : Onto b S w w'
theorem WStep.trans {b : Nat} {S : Nat → Prop} {w w1 w2 : World} {l m : List Ic} (h : WStep b S w w1 l) (k : WStep b (fun i => S i ∨ w.heap.size ≤ i) w1 w2 m) : WStep b S w w2 m :=
 ⟨k.here.weak (fun i hi => by rcases hi with hi | hi; exact hi; exact .inr (Nat.le_trans h.onto.size hi)), h.onto.trans k.onto⟩
theorem WStep.pre {b : Nat} {S : Nat → Prop} {w W w' : World} {l : List Ic} (h : Below w.heap.size w W) (k : WStep b S W w' l) : WStep b S w w' l :=
 ⟨k.here.weak (fun i hi => by rcases hi with hi | hi; exact .inl hi; exact .inr (Nat.le_trans h.size hi)), k.onto.pre h⟩
theorem WStep.still {b : Nat} {S : Nat → Prop} {w w' : World} {l : List Ic} (h : WrAt w' b S l) (k : Below w.heap.size w w') : WStep b S w w' l :=
 ⟨h.weak (fun i hi => .inl hi), Onto.of_below k⟩
theorem ic_new (w : World) (x : Ic) (t : TypeId) : ∀ j u, (icRow [x])[j]? = some u → (w.alloc (.cells #[.int .i64 x.op, .int .i64 x.a, .int .i64 x.b, .int .i64 x.c] t)).cell? ((⟨w.heap.size, 0, none⟩ : Addr).add j) = some u := by
 intro j u h
 match j, h with
 | 0, h => simp [icRow] at h; subst h; simp [go_sem, Addr.add]
 | 1, h => simp [icRow] at h; subst h; simp [go_sem, Addr.add]
 | 2, h => simp [icRow] at h; subst h; simp [go_sem, Addr.add]
 | 3, h => simp [icRow] at h; subst h; simp [go_sem, Addr.add]
 | j + 4, h => simp [icRow] at h
set_option maxRecDepth 100000 in
set_option maxHeartbeats 1000000 in
theorem put_any (b : Nat) (S : Nat → Prop) (l : List Ic) (op a e c : Int) (w : World) (h : WrAt w b S l) (hl : l.length ≤ 100000) :
  Calls Tryz.prog 29 #[.pointer (some ⟨b, 0, none⟩), .int .i64 op, .int .i64 a, .int .i64 e, .int .i64 c] w fun r w' => r = .returned (.tuple #[]) ∧ WStep b S w w' (l ++ [⟨op, a, e, c⟩]) := by
 have hlt := h.lt
 obtain ⟨⟨v, hv, ho, hSS⟩, fz⟩ := h
 have HSS : Hid (∀ k, v.ownBlock = some k → S k) := hSS
 have HO : Hid (w.ownsRow (b + 1) 73 4 v l.length (icRow l)) := ho
 obtain ⟨iV, hiV, hzV, hsV, hbV⟩ := parts_of_info infoIns
 have HNE : Hid (v.ownBlock ≠ some b) := fun e => by have := (ho.lt b e).1; omega
 have hpos : 0 < l.length + 1 := by omega
 have m1 : l.length + 1 ≤ maxLen := by unfold maxLen; omega
 have m2 : (l.length + 1) * 32 ≤ 140737488355328 := by omega
 have m3 : ∀ ob, b + 1 ≤ (w.alloc ob).heap.size := fun ob => by simp; omega
 clear ho hSS
 go_enter Tryz.func29, Tryz.ntmps29
 go_wp2_with (at_builtin; refine wpList_append_fresh rfl (.tmp 14) (.tmp 20) 41 rfl (b + 1) 73 iV (.agg #[.int .i64 0, .int .i64 0, .int .i64 0, .int .i64 0]) 4 32 Tryz.underlying41 hiV hzV hsV hbV rfl (by decide) v l.length (icRow l) (by rfl) (by exact HO.out.alloc _) ⟨w.heap.size, 0, none⟩ 1 1 (icRow [⟨op, a, e, c⟩]) (by rfl) rfl (by exact ic_new w ⟨op, a, e, c⟩ 73) (by intro q hq; simp [icRow] at hq; rcases hq with rfl | rfl | rfl | rfl <;> rfl) m1 m2 (m3 _) (by decide) ?_; intro v' w2 hown hgrow hfr; have hk : w2.heap[b]? = w.heap[b]? := (hgrow.block b (by simp; omega) (fun e => HNE.out e.symm)).trans (Below.heap_alloc _ _ _ hlt); have q0 : w2.cell? ⟨b, 0, none⟩ = some v := (World.cell?_of_block (a := ⟨b, 0, none⟩) hk).trans hv; have q1 : ∀ o, w2.frozen? ⟨b, o, none⟩ = false := (fun o => (World.frozen?_of_block (a := ⟨b, o, none⟩) hk).trans (fz o)); have hon : Onto b S w w2 := ⟨hgrow.os, hgrow.tape, hgrow.output, (by have := hgrow.size; simp at this; omega), fun k hk hb hs => (hgrow.block k (by simp; omega) (fun e => hs (HSS.out k e.symm))).trans (Below.heap_alloc _ _ _ hk)⟩; obtain ⟨gn, capn, rfl⟩ := Joins.ownsRow_form hown hpos; have HOWN : Hid _ := hown; have HON : Hid (Onto b S w w2) := hon; have HFR : Hid _ := hfr; clear hown hon hgrow hk hfr)
 go_end0
 refine ⟨rfl, ⟨⟨.slice (some ⟨gn, 0, none⟩) (l.length + 1) capn, by simp [go_sem, q0], ?_, fun k hk => ?_⟩, fun o => by simp [go_sem, q1]⟩, HON.out.setCell _ _⟩
 ·rw [icRow_app, List.length_append]
  exact ownsRow_setCell_below HOWN.out (a := ⟨b, 0, none⟩) (by simp) _
 ·rcases HFR.out with e | ⟨g, hg, hl2⟩
  ·exact .inl (HSS.out k (by rw [← e]; exact hk))
  ·rw [hg] at hk
   cases hk
   exact .inr (by simp at hl2; omega)
theorem parts_form2 {w : World} {P : Nat → Prop} {v : Value} {l : List Pt} (h : PartsV w P v l) :
  ∃ ao g cap, v = .slice ao l.length cap ∧ ∀ i, ∀ hi : i < l.length, ao = some ⟨g, 0, none⟩ ∧ P g ∧ w.cell? ⟨g, i * 2, none⟩ = some (.int .i64 l[i].op) ∧ w.cell? ⟨g, i * 2 + 1, none⟩ = some (.int .i64 l[i].num) := by
 obtain ⟨ao, g, cap, hv, hc⟩ := parts_form h
 refine ⟨ao, g, cap, hv, fun i hi => ?_⟩
 obtain ⟨h1, _, h3, h4⟩ := hc i hi
 exact ⟨h1, h.2 g (by rw [hv, h1]; rfl), h3, h4⟩
theorem exprI_op {p : Pt} {r : List Pt} {top : Int} (h1 : ¬ (p.op = 1 ∨ p.op = 2)) (h3 : ¬ p.op = 3) : exprI (p :: r) top = ⟨p.op, top - 1 - 1, top - 1 - 1, top - 1⟩ :: exprI r (top - 1) := by
 conv => lhs; unfold exprI
 rw [if_neg h1, if_neg h3]
set_option maxRecDepth 100000 in
set_option maxHeartbeats 4000000 in
theorem gexpr_any (b : Nat) (S : Nat → Prop) (l : List Ic) (P : List Pt) (Q : Nat → Prop) (v : Value) (w : World) (h : WrAt w b S l) (hl : l.length + P.length ≤ 100000) (hP : P.length ≤ 1000) (hv : PartsV w Q v P) (hQ : ∀ k, Q k → k < b) (hSb : ∀ k, S k → b < k) :
  Calls Tryz.prog 61 #[.pointer (some ⟨b, 0, none⟩), v] w fun r w' => r = .returned (.tuple #[]) ∧ WStep b S w w' (l ++ exprI P 35) := by
 obtain ⟨ao, g, cap, rfl, hcells⟩ := parts_form2 hv
 have hlt0 := h.lt
 have HC : Hid _ := hcells
 have HST0 : Hid (WStep b S w w l) := WStep.still h (Below.refl _ _)
 have HQ : Hid (∀ k, Q k → k < b) := hQ
 have HSB : Hid (∀ k, S k → b < k) := hSb
 generalize hR : l ++ exprI P 35 = R
 have HR : Hid (l ++ exprI (P.drop 0) 35 = R) := hR
 clear hcells hv hR h hQ hSb
 go_enter Tryz.func61, Tryz.ntmps61
 go_wp2_with fail
 go_loopw [4, 9] (fun t x w' => ∃ (k : Nat) (top : Int) (m : List Ic), x = .int .i64 k ∧ t = .int .i64 top ∧ k ≤ P.length ∧ 35 - (k : Int) ≤ top ∧ top ≤ 35 + (k : Int) ∧ m.length = l.length + k ∧ Hid (WStep b S w w' m) ∧ Hid (m ++ exprI (P.drop k) top = R)) (fun _ x _ => P.length - (intOf x).toNat)
 case atStart => exact ⟨0, 35, l, rfl, rfl, by omega, by omega, by omega, by omega, HST0, HR⟩
 case round =>
  obtain ⟨k, top, m, rfl, rfl, hk, ht1, ht2, hm, HST, HL⟩ := hrel
  by_cases hlt : k < P.length
  ·have tk : decide ((k : Int) < (P.length : Int)) = true := by simp; omega
   obtain ⟨e0, hqg, c0, c1⟩ := HC.out k hlt
   have hgb : g < b := HQ.out g hqg
   have hBl : Below b w wr := HST.out.onto.below hlt0 HSB.out
   have hlr : b < wr.heap.size := HST.out.here.lt
   rw [← hBl.cell (p := ⟨g, k * 2, none⟩) hgb] at c0
   rw [← hBl.cell (p := ⟨g, k * 2 + 1, none⟩) hgb] at c1
   have hLL := HL.out
   rw [List.drop_eq_getElem_cons hlt] at hLL
   generalize P[k] = p at *
   obtain ⟨po, pn⟩ := p
   simp only at c0 c1
   have HBA : Hid (Below wr.heap.size wr (wr.alloc (.cells #[.int .i64 po, .int .i64 pn] 121))) := (Below.refl _ _).alloc (Nat.le_refl _) _
   have HWR : Hid (WrAt (wr.alloc (.cells #[.int .i64 po, .int .i64 pn] 121)) b (fun k => S k ∨ w.heap.size ≤ k) m) := HST.out.here.keep HBA.out (Nat.le_refl _)
   have i0 : (0 : Int) ≤ (k : Int) := by omega
   have i1 : (k : Int) < (P.length : Int) := by omega
   subst e0
   clear hBl
   by_cases h1 : po = 1
   ·subst h1
    have HN : Hid ((m ++ [⟨1, top, pn, 0⟩]) ++ exprI (P.drop (k + 1)) (top + 1) = R) := by show _ = _; rw [← hLL]; simp [exprI]
    clear hLL HL
    go_wp2_with (go_at_call 29; refine (put_any b _ m _ _ _ _ _ HWR.out (by omega)).mono ?_; rintro r1 w1 ⟨rfl, hs1⟩; have HS1 : Hid (WStep b S w w1 _) := HST.out.trans (hs1.pre HBA.out); clear hs1)
    go_roundw
    case rel => exact ⟨k + 1, top + 1, _, by go_num, rfl, by omega, by omega, by omega, by simp; omega, HS1, HN⟩
    case measure => simp [intOf]; omega
   by_cases h2 : po = 2
   ·subst h2
    have HN : Hid ((m ++ [⟨2, top, pn, 0⟩]) ++ exprI (P.drop (k + 1)) (top + 1) = R) := by show _ = _; rw [← hLL]; simp [exprI]
    clear hLL HL
    go_wp2_with (go_at_call 29; refine (put_any b _ m _ _ _ _ _ HWR.out (by omega)).mono ?_; rintro r1 w1 ⟨rfl, hs1⟩; have HS1 : Hid (WStep b S w w1 _) := HST.out.trans (hs1.pre HBA.out); clear hs1)
    go_roundw
    case rel => exact ⟨k + 1, top + 1, _, by go_num, rfl, by omega, by omega, by omega, by simp; omega, HS1, HN⟩
    case measure => simp [intOf]; omega
   by_cases h3 : po = 3
   ·subst h3
    have HN : Hid ((m ++ [⟨3, top - 1, top - 1, 0⟩]) ++ exprI (P.drop (k + 1)) top = R) := by show _ = _; rw [← hLL]; simp [exprI]
    clear hLL HL
    go_wp2_with (go_at_call 29; refine (put_any b _ m _ _ _ _ _ HWR.out (by omega)).mono ?_; rintro r1 w1 ⟨rfl, hs1⟩; have HS1 : Hid (WStep b S w w1 _) := HST.out.trans (hs1.pre HBA.out); clear hs1)
    go_roundw
    case rel => exact ⟨k + 1, top, _, by go_num, rfl, by omega, by omega, by omega, by simp; omega, HS1, HN⟩
    case measure => simp [intOf]; omega
   ·have HN : Hid ((m ++ [⟨po, top - 1 - 1, top - 1 - 1, top - 1⟩]) ++ exprI (P.drop (k + 1)) (top - 1) = R) := by show _ = _; rw [← hLL, exprI_op (by simp only; omega) h3]; simp
    have t1 : (po == 1) = false := by simpa using h1
    have t2 : (po == 2) = false := by simpa using h2
    have t3 : (po == 3) = false := by simpa using h3
    clear hLL HL h1 h2 h3
    go_wp2_with (go_at_call 29; refine (put_any b _ m _ _ _ _ _ HWR.out (by omega)).mono ?_; rintro r1 w1 ⟨rfl, hs1⟩; have HS1 : Hid (WStep b S w w1 _) := HST.out.trans (hs1.pre HBA.out); clear hs1)
    go_roundw
    case rel => exact ⟨k + 1, top - 1, _, by go_num, rfl, by omega, by omega, by omega, by simp; omega, HS1, HN⟩
    case measure => simp [intOf]; omega
  ·have tk : decide ((k : Int) < (P.length : Int)) = false := by simp; omega
   have HF : Hid (m = R) := by
    have := HL.out
    rw [List.drop_of_length_le (by omega)] at this
    show _ = _
    simpa [exprI] using this
   go_wp2_with fail
   go_end0
   rw [← HF.out]
   exact ⟨rfl, HST.out⟩
end Go.Proofs.YtdgmoiflahoihabGreat
