import Derived.Test.YtdgmoiflahoihabGreatGWw
import Derived.Test.YtdgmoiflahoihabGreatRDow

namespace Go.Proofs.YtdgmoiflahoihabGreat
open Go.RowKit
set_option linter.unusedSimpArgs false
set_option linter.unusedVariables false
def GenCalls (n : Nat) : Prop := ∀ (b : Nat) (S : Nat → Prop) (l : List Ic) (r : List (RT n)) (loops : Nat) (P : Nat → Prop) (v : Value) (w : World), TreeOk n r → l.length + (genF n l.length loops r).length ≤ 100000 → loops + n ≤ 100 → WrAt w b S l → RulesV n w P v r → (∀ k, P k → k < b) → (∀ k, S k → b < k) →
 Calls Tryz.prog 28 #[.pointer (some ⟨b, 0, none⟩), v, .int .i64 loops] w fun e w' => e = .returned (.tuple #[]) ∧ WStep b S w w' (l ++ genF n l.length loops r)
theorem own_set {w : World} {base size n g j : Nat} {e : TypeId} {v u : Value} {xs : List Value} (h : w.ownsRow base e size v n xs) (hg : v.ownBlock = some g) (hj : j < xs.length) : (w.setCell ⟨g, j, none⟩ u).ownsRow base e size v n (xs.set j u) := by
 rcases h.2 with ⟨rfl, _⟩ | ⟨g', cap, cur, rfl, hb, hh, h1, h2, h3, h4⟩
 ·simp [Value.ownBlock] at hg
 ·simp [Value.ownBlock] at hg
  subst hg
  refine ⟨by simp [h.1], .inr ⟨g', cap, cur.setIfInBounds j u, rfl, hb, ?_, h1, h2, by simp [h3], ?_⟩⟩
  ·unfold World.setCell
   simp only [Array.getElem?_modify, hh, if_true, Option.map_some, Option.isSome_none, Bool.false_eq_true, if_false]
  ·rw [Array.toList_setIfInBounds, List.take_set, h4]
theorem ic_setA : ∀ (A : List Ic) (x : Ic) (R : List Ic) (u : Int), (icRow (A ++ x :: R)).set (A.length * 4 + 1) (.int .i64 u) = icRow (A ++ { x with a := u } :: R)
 | [], x, R, u => rfl
 | y :: A, x, R, u => by
  simp only [List.cons_append, icRow, List.length_cons]
  rw [show (A.length + 1) * 4 + 1 = (A.length * 4 + 1) + 1 + 1 + 1 + 1 by omega]
  simp only [List.set_cons_succ]
  rw [ic_setA A x R u]
theorem ic_setB : ∀ (A : List Ic) (x : Ic) (R : List Ic) (u : Int), (icRow (A ++ x :: R)).set (A.length * 4 + 2) (.int .i64 u) = icRow (A ++ { x with b := u } :: R)
 | [], x, R, u => rfl
 | y :: A, x, R, u => by
  simp only [List.cons_append, icRow, List.length_cons]
  rw [show (A.length + 1) * 4 + 2 = (A.length * 4 + 2) + 1 + 1 + 1 + 1 by omega]
  simp only [List.set_cons_succ]
  rw [ic_setB A x R u]
theorem ic_setC : ∀ (A : List Ic) (x : Ic) (R : List Ic) (u : Int), (icRow (A ++ x :: R)).set (A.length * 4 + 3) (.int .i64 u) = icRow (A ++ { x with c := u } :: R)
 | [], x, R, u => rfl
 | y :: A, x, R, u => by
  simp only [List.cons_append, icRow, List.length_cons]
  rw [show (A.length + 1) * 4 + 3 = (A.length * 4 + 3) + 1 + 1 + 1 + 1 by omega]
  simp only [List.set_cons_succ]
  rw [ic_setC A x R u]
theorem WrAt.narrow {w : World} {b : Nat} {S : Nat → Prop} {l : List Ic} (h : WrAt w b S l) : WrAt w b (fun k => S k ∧ k < w.heap.size) l := by
 obtain ⟨⟨v, c, ho, hS⟩, fz⟩ := h
 exact ⟨⟨v, c, ho, fun k hk => ⟨hS k hk, (ho.lt k hk).2⟩⟩, fz⟩
theorem WStep.wide {b : Nat} {R S : Nat → Prop} {w w' : World} {l : List Ic} (h : WStep b R w w' l) (hs : ∀ k, R k → S k) : WStep b S w w' l :=
 ⟨h.here.weak (fun i hi => by rcases hi with hi | hi; exact .inl (hs i hi); exact .inr hi), ⟨h.onto.os, h.onto.tape, h.onto.output, h.onto.size, fun k hk hb hn => h.onto.block k hk hb (fun e => hn (hs k e))⟩⟩
theorem WrAt.form {w : World} {b : Nat} {S : Nat → Prop} {l : List Ic} (h : WrAt w b S l) : ∃ ao cap, w.cell? ⟨b, 0, none⟩ = some (.slice ao l.length cap) := by
 obtain ⟨⟨v, c, ho, _⟩, _⟩ := h
 rcases Joins.ownsRow_forms ho with ⟨rfl, h0⟩ | ⟨g, cap, rfl⟩
 ·exact ⟨none, 0, by rw [c, h0]⟩
 ·exact ⟨_, _, c⟩
theorem WrAt.open {w : World} {b : Nat} {S : Nat → Prop} {l : List Ic} (h : WrAt w b S l) (hl : 0 < l.length) : ∃ g cap, w.cell? ⟨b, 0, none⟩ = some (.slice (some ⟨g, 0, none⟩) l.length cap) ∧ S g ∧ b < g ∧ g < w.heap.size ∧ (∀ j, j < l.length * 4 → ∃ u, w.cell? ⟨g, j, none⟩ = some u) ∧ (∀ o, w.frozen? ⟨g, o, none⟩ = false) ∧ w.ownsRow (b + 1) 73 4 (.slice (some ⟨g, 0, none⟩) l.length cap) l.length (icRow l) := by
 obtain ⟨⟨v, c, ho, hS⟩, _⟩ := h
 have hln := icRow_length l
 obtain ⟨g, cap, rfl⟩ := Joins.ownsRow_form ho hl
 obtain ⟨h1, h2⟩ := ho.lt g rfl
 refine ⟨g, cap, c, hS g rfl, by omega, h2, fun j hj => ?_, fun o => ?_, ho⟩
 ·exact ⟨_, (ho.cellAt j (by omega)).trans (List.getElem?_eq_getElem (by omega))⟩
 ·rcases ho.2 with ⟨he, _⟩ | ⟨g', cap', cur, he, hb, hh, _⟩
  ·cases he
  ·cases he
   simp [World.frozen?, hh]
theorem WrAt.patch {w : World} {b g cap j : Nat} {S : Nat → Prop} {l l' : List Ic} {u : Value} (h : WrAt w b S l) (hc : w.cell? ⟨b, 0, none⟩ = some (.slice (some ⟨g, 0, none⟩) l.length cap)) (hj : j < l.length * 4) (he : (icRow l).set j u = icRow l') (hl : l'.length = l.length) (hgb : b < g) : WrAt (w.setCell ⟨g, j, none⟩ u) b S l' ∧ (w.setCell ⟨g, j, none⟩ u).cell? ⟨b, 0, none⟩ = some (.slice (some ⟨g, 0, none⟩) l'.length cap) := by
 have hcc : (w.setCell ⟨g, j, none⟩ u).cell? ⟨b, 0, none⟩ = some (.slice (some ⟨g, 0, none⟩) l'.length cap) := by
  rw [hl]
  simp [go_sem, hc, show ¬ g = b by omega]
 refine ⟨?_, hcc⟩
 obtain ⟨⟨v, c, ho, hS⟩, fz⟩ := h
 rw [hc] at c
 cases c
 have hln := icRow_length l
 refine ⟨⟨_, hcc, ?_, hS⟩, fun o => by simp [go_sem, fz]⟩
 rw [← he, hl]
 exact own_set ho rfl (by omega)
theorem Onto.setRow {b g : Nat} {S : Nat → Prop} {w w' : World} (h : Onto b S w w') (hg : S g ∨ w.heap.size ≤ g) (o : Nat) (u : Value) : Onto b S w (w'.setCell ⟨g, o, none⟩ u) :=
 ⟨h.os, h.tape, h.output, by simpa using h.size, fun k hk hb hs => (Below.heap_setCell _ _ _ _ (fun e => by have e' : k = g := e; rcases hg with hg | hg; exact hs (e' ▸ hg); omega)).trans (h.block k hk hb hs)⟩
set_option maxRecDepth 100000 in
set_option maxHeartbeats 8000000 in
theorem gcond_any (n : Nat) (ih : GenCalls n) (b : Nat) (S : Nat → Prop) (l : List Ic) (q : Core × List (RT n) × List (RT n)) (loops : Nat) (P : Nat → Prop) (ve v1 v2 : Value) (w : World) (hc : CoreOk q.1) (h1 : TreeOk n q.2.1) (h2 : TreeOk n q.2.2) (hw : l.length + (genT (genF n) l.length loops q).length ≤ 100000) (hlo : loops + n ≤ 99) (hS : WrAt w b S l) (hve : PartsV w P ve q.1.parts) (hr1 : RulesV n w P v1 q.2.1) (hr2 : RulesV n w P v2 q.2.2) (hP : ∀ k, P k → k < b) (hSb : ∀ k, S k → b < k) (hk : q.1.kind = 3) :
  Calls Tryz.prog 62 #[.pointer (some ⟨b, 0, none⟩), .agg #[.int .i64 q.1.kind, .int .i64 q.1.place, .int .i64 q.1.name, .int .i64 q.1.label, .int .i64 q.1.count, ve, v1, v2], .int .i64 loops] w fun e w' => e = .returned (.tuple #[]) ∧ WStep b S w w' (l ++ genT (genF n) l.length loops q) := by
 obtain ⟨c, l1, l2⟩ := q
 simp only at *
 have hlw := hS.lt
 have hle := exprI_len c.parts 35
 have hG : genT (genF n) l.length loops (c, l1, l2) = exprI c.parts 35 ++ (⟨13, 35, (l.length + (exprI c.parts 35).length + 1 + (genF n (l.length + (exprI c.parts 35).length + 1) loops l1).length + 1 : Nat), (l.length + (exprI c.parts 35).length + 1 + (genF n (l.length + (exprI c.parts 35).length + 1) loops l1).length + 1 + (genF n (l.length + (exprI c.parts 35).length + 1 + (genF n (l.length + (exprI c.parts 35).length + 1) loops l1).length + 1) loops l2).length : Nat)⟩ ::
   (genF n (l.length + (exprI c.parts 35).length + 1) loops l1 ++ (⟨12, (l.length + (exprI c.parts 35).length + 1 + (genF n (l.length + (exprI c.parts 35).length + 1) loops l1).length + 1 + (genF n (l.length + (exprI c.parts 35).length + 1 + (genF n (l.length + (exprI c.parts 35).length + 1) loops l1).length + 1) loops l2).length : Nat), 0, 0⟩ ::
    genF n (l.length + (exprI c.parts 35).length + 1 + (genF n (l.length + (exprI c.parts 35).length + 1) loops l1).length + 1) loops l2))) := by
  unfold genT
  simp only [hk]
  rfl
 rw [hG] at hw ⊢
 obtain ⟨ae, ne, ce, hvee⟩ : ∃ aa nn cc, ve = .slice aa nn cc := by
  rcases Joins.ownsRow_forms hve.1 with ⟨rfl, _⟩ | ⟨g, cap, rfl⟩ <;> exact ⟨_, _, _, rfl⟩
 subst hvee
 obtain ⟨a1, n1, c1, hv1⟩ := rulesV_form hr1
 obtain ⟨a2, n2, c2, hv2⟩ := rulesV_form hr2
 have hEV : v1 = .slice a1 n1 c1 ∧ v2 = .slice a2 n2 c2 := ⟨hv1, hv2⟩
 clear hv1 hv2
 obtain ⟨rfl, rfl⟩ := hEV
 generalize hW : w.alloc (.cells #[.int .i64 c.kind, .int .i64 c.place, .int .i64 c.name, .int .i64 c.label, .int .i64 c.count, .slice ae ne ce, .slice a1 n1 c1, .slice a2 n2 c2] 96) = W
 have HWe : Hid _ := hW
 have hBB : Below w.heap.size w W := by rw [← hW]; exact (Below.refl _ _).alloc (Nat.le_refl _) _
 have hWs : W.heap.size = w.heap.size + 1 := by rw [← hW]; simp
 have q5 : W.cell? ⟨w.heap.size, 5, none⟩ = some (.slice ae ne ce) := by rw [← hW]; simp [go_sem]
 have q6 : W.cell? ⟨w.heap.size, 6, none⟩ = some (.slice a1 n1 c1) := by rw [← hW]; simp [go_sem]
 have q7 : W.cell? ⟨w.heap.size, 7, none⟩ = some (.slice a2 n2 c2) := by rw [← hW]; simp [go_sem]
 have HVE : Hid (PartsV W P (.slice ae ne ce) c.parts) := partsV_below hve hBB
 have HR1 : Hid (RulesV n W P (.slice a1 n1 c1) l1) := rulesV_below hr1 hBB
 have HR2 : Hid (RulesV n W P (.slice a2 n2 c2) l2) := rulesV_below hr2 hBB
 have HWR : Hid (WrAt W b (fun k => S k ∧ k < w.heap.size) l) := hS.narrow.keep hBB (Nat.le_refl _)
 have HBW : Hid (Below w.heap.size w W) := hBB
 have H1 : Hid (TreeOk n l1) := h1
 have H2 : Hid (TreeOk n l2) := h2
 have HP : Hid (∀ k, P k → k < b) := hP
 have HSB : Hid (∀ k, (S k ∧ k < w.heap.size) → b < k) := fun k hk => hSb k hk.1
 have HSB2 : Hid (∀ k, ((S k ∧ k < w.heap.size) ∨ W.heap.size ≤ k) → b < k) := fun k hk => by rcases hk with hk | hk; exact hSb k hk.1; omega
 have HKEEP : Hid (∀ (w' : World) (m : List Ic), WStep b (fun k => S k ∧ k < w.heap.size) W w' m → ∀ o, w'.cell? ⟨w.heap.size, o, none⟩ = W.cell? ⟨w.heap.size, o, none⟩) := fun w' m h o => World.cell?_of_block (a := ⟨w.heap.size, o, none⟩) (h.onto.block w.heap.size (by omega) (by omega) (fun e => absurd e.2 (Nat.lt_irrefl _)))
 have IH : Hid (GenCalls n) := ih
 have hfew := hc.few
 have HEV : Hid (∀ (w' : World) (m : List Ic), WStep b (fun k => S k ∧ k < w.heap.size) W w' m → Below b W w') := fun w' m h => h.onto.below (by omega) HSB.out
 clear hve hr1 hr2 hS hc h1 h2 hP hSb ih hBB hW hG hk
 simp only [List.length_append, List.length_cons] at hw
 rw [hle] at hw ⊢
 generalize hL1 : l ++ exprI c.parts 35 = L1
 have hL1l : L1.length = l.length + c.parts.length := by rw [← hL1]; simp [hle]
 have HL1 : Hid (l ++ exprI c.parts 35 = L1) := hL1
 generalize hF : genF n (l.length + c.parts.length + 1) loops l1 = F at *
 generalize hP2 : l.length + c.parts.length + 1 + F.length + 1 = P2 at *
 generalize hG : genF n P2 loops l2 = G at *
 have HF : Hid (genF n (L1.length + 1) loops l1 = F) := by rw [hL1l]; exact hF
 have HG : Hid (genF n P2 loops l2 = G) := hG
 obtain ⟨J, hJ⟩ : ∃ J, J = L1.length + 1 + F.length := ⟨_, rfl⟩
 have HJ : Hid (J = L1.length + 1 + F.length) := hJ
 have hJ1 : L1.length < J := by omega
 have hJ2 : J < P2 + G.length := by omega
 have HP2L : Hid (P2 = L1.length + 1 + F.length + 1) := by show _ = _; omega
 have hw2 : L1.length + 1 + F.length + 1 + G.length ≤ 100000 := by omega
 have hw3 : P2 + G.length ≤ 100000 := by omega
 have HEND : Hid (L1 ++ ⟨13, 35, (P2 : Nat), (P2 + G.length : Nat)⟩ :: (F ++ (⟨12, (P2 + G.length : Nat), 0, 0⟩ :: G)) = l ++ (exprI c.parts 35 ++ (⟨13, 35, (P2 : Nat), (P2 + G.length : Nat)⟩ :: (F ++ (⟨12, (P2 + G.length : Nat), 0, 0⟩ :: G))))) := by show _ = _; rw [← hL1]; simp
 rw [← HEND.out]
 have hw4 : l.length + c.parts.length ≤ 100000 := by omega
 clear hL1 hF hG hP2 HEND hL1l hw hle hJ
 go_enter Tryz.func62, Tryz.ntmps62
 go_upto_region 1 with fail
 rw [HWe.out]
 go_upto_region 5 with (first | (go_at_call 61; refine (gexpr_any b _ l c.parts P _ _ HWR.out (by omega) hfew HVE.out HP.out HSB.out).mono ?_; rw [HL1.out]; rintro r1 w1 ⟨rfl, hs1⟩; obtain ⟨ao1, cap1, d1⟩ := hs1.here.form; have HS1 : Hid (WStep b (fun k => S k ∧ k < w.heap.size) W w1 L1) := hs1; clear hs1) | (go_at_call 29; refine (put_any b _ L1 _ _ _ _ _ HS1.out.here (by omega)).mono ?_; rintro r2 w2 ⟨rfl, hs2⟩; have HS2 : Hid (WStep b (fun k => S k ∧ k < w.heap.size) W w2 (L1 ++ [⟨13, 35, 0, 0⟩])) := HS1.out.trans hs2; have d2 := (HKEEP.out _ _ HS2.out 6).trans q6; clear hs2) | (go_at_call 28; refine (IH.out b _ (L1 ++ [⟨13, 35, 0, 0⟩]) l1 loops P _ _ H1.out (by simp only [List.length_append, List.length_cons, List.length_nil]; rw [HF.out]; omega) (by omega) HS2.out.here (rulesV_lower HR1.out HP.out (HEV.out _ _ HS2.out)) HP.out HSB2.out).mono ?_; rw [show (L1 ++ [(⟨13, 35, 0, 0⟩ : Ic)]).length = L1.length + 1 by simp, HF.out]; rintro r3 w3 ⟨rfl, hs3⟩; have HS3 : Hid (WStep b (fun k => S k ∧ k < w.heap.size) W w3 (L1 ++ [⟨13, 35, 0, 0⟩] ++ F)) := HS2.out.trans hs3; clear hs3))
 obtain ⟨ao3, cap3, d3⟩ := HS3.out.here.form
 rw [show (L1 ++ [(⟨13, 35, 0, 0⟩ : Ic)] ++ F).length = J by have h9 := HJ.out; simp; omega] at d3
 go_upto_region 6 with fail
 go_wp2_with fail
 refine (put_any b _ _ _ _ _ _ _ HS3.out.here (by simp; omega)).mono ?_
 rintro r4 w4 ⟨rfl, hs4⟩
 have HS4 : Hid (WStep b (fun k => S k ∧ k < w.heap.size) W w4 (L1 ++ [⟨13, 35, 0, 0⟩] ++ F ++ [⟨12, 0, 0, 0⟩])) := HS3.out.trans hs4
 obtain ⟨ao4, cap4, d4⟩ := hs4.here.form
 have E4 : Hid ((L1 ++ [(⟨13, 35, 0, 0⟩ : Ic)] ++ F ++ [(⟨12, 0, 0, 0⟩ : Ic)]).length = P2) := by have h9 := HP2L.out; show _ = _; simp; omega
 rw [E4.out] at d4
 have d7 := (HKEEP.out _ _ HS4.out 7).trans q7
 clear hs4
 go_wp2_with fail
 refine (IH.out b _ _ l2 loops P _ _ H2.out (by rw [E4.out, HG.out]; omega) (by omega) HS4.out.here (rulesV_lower HR2.out HP.out (HEV.out _ _ HS4.out)) HP.out HSB2.out).mono ?_
 rw [E4.out, HG.out]
 rintro r5 w5 ⟨rfl, hs5'⟩
 have HS5 : Hid (WStep b (fun k => S k ∧ k < w.heap.size) W w5 (L1 ++ [⟨13, 35, 0, 0⟩] ++ F ++ [⟨12, 0, 0, 0⟩] ++ G)) := HS4.out.trans hs5'
 clear hs5'
 have e5 : L1 ++ [(⟨13, 35, 0, 0⟩ : Ic)] ++ F ++ [⟨12, 0, 0, 0⟩] ++ G = L1 ++ ⟨13, 35, 0, 0⟩ :: (F ++ ⟨12, 0, 0, 0⟩ :: G) := by simp
 have hs5 := HS5.out
 rw [e5] at hs5
 have e6 : (L1 ++ (⟨13, 35, 0, 0⟩ : Ic) :: (F ++ ⟨12, 0, 0, 0⟩ :: G)).length = P2 + G.length := by have h9 := HP2L.out; simp; omega
 obtain ⟨g5, cap5, d5, hSg, hbg, hgl, hcell, hfz, hown⟩ := hs5.here.open (by rw [e6]; omega)
 have hc5 := d5
 rw [e6] at d5 hcell
 obtain ⟨u2, k2⟩ := hcell (L1.length * 4 + 2) (by omega)
 obtain ⟨u3, k3⟩ := hcell (L1.length * 4 + 3) (by omega)
 obtain ⟨u1, k1⟩ := hcell (J * 4 + 1) (by omega)
 have n1 : ¬ L1.length * 4 + 2 = J * 4 + 1 := by omega
 have n2 : ¬ L1.length * 4 + 3 = J * 4 + 1 := by omega
 have n3 : ¬ g5 = b := by omega
 have z1 : (0 : Int) ≤ (L1.length : Int) := by omega
 have z2 : (L1.length : Int) < ((P2 + G.length : Nat) : Int) := by omega
 have z3 : (0 : Int) ≤ (J : Int) := by omega
 have z4 : (J : Int) < ((P2 + G.length : Nat) : Int) := by omega
 obtain ⟨N, hN⟩ : ∃ N, N = P2 + G.length := ⟨_, rfl⟩
 rw [← hN] at d5 z2 z4
 have HS6 : Hid (WStep b (fun k => S k ∧ k < w.heap.size) W w5 (L1 ++ ⟨13, 35, 0, 0⟩ :: (F ++ ⟨12, 0, 0, 0⟩ :: G))) := hs5
 have HC5 : Hid _ := hc5
 have HCC : Hid _ := hcell
 have HN : Hid (N = P2 + G.length) := hN
 have HSG : Hid _ := hSg
 have E6 : Hid _ := e6
 have hN2 : N ≤ 100000 := by omega
 clear hs5 HS5 e5 hown hc5 hcell hN hSg e6
 go_wp2_with fail
 go_end0
 rw [← HN.out]
 refine ⟨rfl, WStep.pre HBW.out (WStep.wide (R := fun k => S k ∧ k < w.heap.size) ?_ (fun k hk => hk.1))⟩
 obtain ⟨p1, x1⟩ := HS6.out.here.patch HC5.out (j := L1.length * 4 + 2) (u := .int .i64 P2) (l' := L1 ++ ⟨13, 35, P2, 0⟩ :: (F ++ ⟨12, 0, 0, 0⟩ :: G)) (by rw [E6.out]; omega) (ic_setB L1 ⟨13, 35, 0, 0⟩ _ P2) (by simp) hbg
 obtain ⟨p2, x2⟩ := p1.patch x1 (j := L1.length * 4 + 3) (u := .int .i64 N) (l' := L1 ++ ⟨13, 35, P2, N⟩ :: (F ++ ⟨12, 0, 0, 0⟩ :: G)) (by have := E6.out; simp at this ⊢; omega) (ic_setC L1 ⟨13, 35, P2, 0⟩ _ N) (by simp) hbg
 have e7 : ∀ x : Ic, L1 ++ (⟨13, 35, P2, N⟩ : Ic) :: (F ++ x :: G) = (L1 ++ ⟨13, 35, P2, N⟩ :: F) ++ x :: G := fun x => by simp
 have e8 : (L1 ++ (⟨13, 35, P2, N⟩ : Ic) :: F).length = J := by have := HJ.out; simp; omega
 have hset := ic_setA (L1 ++ ⟨13, 35, P2, N⟩ :: F) ⟨12, 0, 0, 0⟩ G N
 rw [e8, ← e7, ← e7] at hset
 obtain ⟨p3, x3⟩ := p2.patch x2 (j := J * 4 + 1) (u := .int .i64 N) (l' := L1 ++ ⟨13, 35, P2, N⟩ :: (F ++ ⟨12, N, 0, 0⟩ :: G)) (by have := E6.out; simp at this ⊢; omega) hset (by simp) hbg
 exact ⟨p3, ((HS6.out.onto.setRow HSG.out _ _).setRow HSG.out _ _).setRow HSG.out _ _⟩
end Go.Proofs.YtdgmoiflahoihabGreat
