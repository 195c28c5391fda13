import Derived.Test.YtdgmoiflahoihabGreatGW2w

namespace Go.Proofs.YtdgmoiflahoihabGreat
open Go.RowKit
set_option linter.unusedSimpArgs false
set_option linter.unusedVariables false
set_option maxRecDepth 100000 in
set_option maxHeartbeats 8000000 in
theorem gloop_any (n : Nat) (ih : GenCalls n) (b : Nat) (S : Nat → Prop) (l : List Ic) (q : Core × List (RT n) × List (RT n)) (loops : Nat) (P : Nat → Prop) (ve v1 v2 : Value) (w : World) (hc : CoreOk q.1) (h1 : TreeOk n q.2.1) (h2 : TreeOk n q.2.2) (hw : l.length + (genT (genF n) l.length loops q).length ≤ 100000) (hlo : loops + n ≤ 99) (hS : WrAt w b S l) (hve : PartsV w P ve q.1.parts) (hr1 : RulesV n w P v1 q.2.1) (hr2 : RulesV n w P v2 q.2.2) (hP : ∀ k, P k → k < b) (hSb : ∀ k, S k → b < k) (hk : q.1.kind = 4) :
  Calls Tryz.prog 63 #[.pointer (some ⟨b, 0, none⟩), .agg #[.int .i64 q.1.kind, .int .i64 q.1.place, .int .i64 q.1.name, .int .i64 q.1.label, .int .i64 q.1.count, ve, v1, v2], .int .i64 loops] w fun e w' => e = .returned (.tuple #[]) ∧ WStep b S w w' (l ++ genT (genF n) l.length loops q) := by
 obtain ⟨c, l1, l2⟩ := q
 simp only at *
 have hlw := hS.lt
 have hG : genT (genF n) l.length loops (c, l1, l2) = ⟨1, 26, 1, 0⟩ :: ⟨1, (27 + loops : Nat), c.count, 0⟩ :: (genF n (l.length + 2) (loops + 1) l1 ++
   [⟨5, (27 + loops : Nat), (27 + loops : Nat), 26⟩, ⟨13, (27 + loops : Nat), (l.length + 2 + (genF n (l.length + 2) (loops + 1) l1).length + 3 : Nat), (l.length + 2 + (genF n (l.length + 2) (loops + 1) l1).length + 3 : Nat)⟩, ⟨12, (l.length + 2 : Nat), 0, 0⟩]) := by
  unfold genT
  simp only [hk]
  rfl
 rw [hG] at hw ⊢
 obtain ⟨ae, ne, ce, hvee⟩ : ∃ aa nn cc, ve = .slice aa nn cc := by
  rcases Joins.ownsRow_forms hve.1 with ⟨rfl, _⟩ | ⟨g, cap, rfl⟩ <;> exact ⟨_, _, _, rfl⟩
 subst hvee
 obtain ⟨a1, n1, c1, hv1⟩ := rulesV_form hr1
 obtain ⟨a2, n2, c2, hv2⟩ := rulesV_form hr2
 have hEV : v1 = .slice a1 n1 c1 ∧ v2 = .slice a2 n2 c2 := ⟨hv1, hv2⟩
 clear hv1 hv2
 obtain ⟨rfl, rfl⟩ := hEV
 generalize hW : w.alloc (.cells #[.int .i64 c.kind, .int .i64 c.place, .int .i64 c.name, .int .i64 c.label, .int .i64 c.count, .slice ae ne ce, .slice a1 n1 c1, .slice a2 n2 c2] 96) = W
 have HWe : Hid _ := hW
 have hBB : Below w.heap.size w W := by rw [← hW]; exact (Below.refl _ _).alloc (Nat.le_refl _) _
 have hWs : W.heap.size = w.heap.size + 1 := by rw [← hW]; simp
 have q5 : W.cell? ⟨w.heap.size, 5, none⟩ = some (.slice ae ne ce) := by rw [← hW]; simp [go_sem]
 have q6 : W.cell? ⟨w.heap.size, 6, none⟩ = some (.slice a1 n1 c1) := by rw [← hW]; simp [go_sem]
 have q7 : W.cell? ⟨w.heap.size, 7, none⟩ = some (.slice a2 n2 c2) := by rw [← hW]; simp [go_sem]
 have HVE : Hid (PartsV W P (.slice ae ne ce) c.parts) := partsV_below hve hBB
 have HR1 : Hid (RulesV n W P (.slice a1 n1 c1) l1) := rulesV_below hr1 hBB
 have HR2 : Hid (RulesV n W P (.slice a2 n2 c2) l2) := rulesV_below hr2 hBB
 have HWR : Hid (WrAt W b (fun k => S k ∧ k < w.heap.size) l) := hS.narrow.keep hBB (Nat.le_refl _)
 have HBW : Hid (Below w.heap.size w W) := hBB
 have H1 : Hid (TreeOk n l1) := h1
 have H2 : Hid (TreeOk n l2) := h2
 have HP : Hid (∀ k, P k → k < b) := hP
 have HSB : Hid (∀ k, (S k ∧ k < w.heap.size) → b < k) := fun k hk => hSb k hk.1
 have HSB2 : Hid (∀ k, ((S k ∧ k < w.heap.size) ∨ W.heap.size ≤ k) → b < k) := fun k hk => by rcases hk with hk | hk; exact hSb k hk.1; omega
 have HKEEP : Hid (∀ (w' : World) (m : List Ic), WStep b (fun k => S k ∧ k < w.heap.size) W w' m → ∀ o, w'.cell? ⟨w.heap.size, o, none⟩ = W.cell? ⟨w.heap.size, o, none⟩) := fun w' m h o => World.cell?_of_block (a := ⟨w.heap.size, o, none⟩) (h.onto.block w.heap.size (by omega) (by omega) (fun e => absurd e.2 (Nat.lt_irrefl _)))
 have IH : Hid (GenCalls n) := ih
 have hfew := hc.few
 have HEV : Hid (∀ (w' : World) (m : List Ic), WStep b (fun k => S k ∧ k < w.heap.size) W w' m → Below b W w') := fun w' m h => h.onto.below (by omega) HSB.out
 have q4 : W.cell? ⟨w.heap.size, 4, none⟩ = some (.int .i64 c.count) := by rw [← hW]; simp [go_sem]
 simp only [List.length_append, List.length_cons, List.length_nil] at hw
 generalize hF : genF n (l.length + 2) (loops + 1) l1 = F at *
 have HF : Hid (genF n (l.length + 2) (loops + 1) l1 = F) := hF
 obtain ⟨C, hC⟩ : ∃ C : Nat, C = 27 + loops := ⟨_, rfl⟩
 obtain ⟨B, hB⟩ : ∃ B : Nat, B = l.length + 2 + F.length + 3 := ⟨_, rfl⟩
 rw [← hC, ← hB]
 have hw2 : l.length + 2 + F.length + 3 ≤ 100000 := by omega
 have HC : Hid (C = 27 + loops) := hC
 have HB : Hid (B = l.length + 2 + F.length + 3) := hB
 have tC : (27 : Int) + (loops : Int) = (C : Int) := by omega
 have tB : ((l.length + 2 + F.length + 1 : Nat) : Int) + 2 = (B : Int) := by omega
 clear hve hr1 hr2 hS hc h1 h2 hP hSb ih hBB hW hG hk hF hC hB hw
 go_enter Tryz.func63, Tryz.ntmps63
 go_upto_region 1 with fail
 rw [HWe.out]
 go_wp2_with fail
 refine (put_any b _ l _ _ _ _ _ HWR.out (by omega)).mono ?_
 rintro r1 w1 ⟨rfl, hs1⟩
 have HS1 : Hid (WStep b (fun k => S k ∧ k < w.heap.size) W w1 (l ++ [⟨1, 26, 1, 0⟩])) := hs1
 have d4 := (HKEEP.out _ _ HS1.out 4).trans q4
 clear hs1
 go_wp2_with fail
 refine (put_any b _ _ _ _ _ _ _ HS1.out.here (by simp; omega)).mono ?_
 rintro r2 w2 ⟨rfl, hs2⟩
 have HS2 : Hid (WStep b (fun k => S k ∧ k < w.heap.size) W w2 (l ++ [⟨1, 26, 1, 0⟩] ++ [⟨1, C, c.count, 0⟩])) := HS1.out.trans hs2
 obtain ⟨ao2, cap2, d2⟩ := hs2.here.form
 have E2 : Hid ((l ++ [(⟨1, 26, 1, 0⟩ : Ic)] ++ [(⟨1, C, c.count, 0⟩ : Ic)]).length = l.length + 2) := by show _ = _; simp
 rw [E2.out] at d2
 have d6 := (HKEEP.out _ _ HS2.out 6).trans q6
 clear hs2
 go_wp2_with fail
 have hlp : ((loops : Int) + 1) = ((loops + 1 : Nat) : Int) := by omega
 rw [hlp]
 clear hlp
 refine (IH.out b _ _ l1 (loops + 1) P _ _ H1.out (by rw [E2.out, HF.out]; omega) (by omega) HS2.out.here (rulesV_lower HR1.out HP.out (HEV.out _ _ HS2.out)) HP.out HSB2.out).mono ?_
 rw [E2.out, HF.out]
 rintro r3 w3 ⟨rfl, hs3⟩
 have HS3 : Hid (WStep b (fun k => S k ∧ k < w.heap.size) W w3 (l ++ [⟨1, 26, 1, 0⟩] ++ [⟨1, C, c.count, 0⟩] ++ F)) := HS2.out.trans hs3
 clear hs3
 go_wp2_with fail
 refine (put_any b _ _ _ _ _ _ _ HS3.out.here (by simp; omega)).mono ?_
 rintro r4 w4 ⟨rfl, hs4⟩
 have HS4 : Hid (WStep b (fun k => S k ∧ k < w.heap.size) W w4 (l ++ [⟨1, 26, 1, 0⟩] ++ [⟨1, C, c.count, 0⟩] ++ F ++ [⟨5, C, C, 26⟩])) := HS3.out.trans hs4
 obtain ⟨ao4, cap4, d5⟩ := hs4.here.form
 have e4 : (l ++ [(⟨1, 26, 1, 0⟩ : Ic)] ++ [(⟨1, C, c.count, 0⟩ : Ic)] ++ F ++ [(⟨5, C, C, 26⟩ : Ic)]).length = l.length + 2 + F.length + 1 := by simp; omega
 rw [e4] at d5
 clear hs4 e4
 go_wp2_with fail
 refine (put_any b _ _ _ _ _ _ _ HS4.out.here (by simp; omega)).mono ?_
 rintro r5 w5 ⟨rfl, hs5⟩
 have HS5 : Hid (WStep b (fun k => S k ∧ k < w.heap.size) W w5 (l ++ [⟨1, 26, 1, 0⟩] ++ [⟨1, C, c.count, 0⟩] ++ F ++ [⟨5, C, C, 26⟩] ++ [⟨13, C, B, B⟩])) := by
  have h9 := HS4.out.trans hs5
  rw [show ((l.length : Int) + 2 + F.length + 1 + 2) = (B : Int) by have := HB.out; omega] at h9
  exact h9
 clear hs5
 go_wp2_with fail
 refine (put_any b _ _ _ _ _ _ _ HS5.out.here (by simp; omega)).mono ?_
 rintro r6 w6 ⟨rfl, hs6⟩
 have HS6 : Hid (WStep b (fun k => S k ∧ k < w.heap.size) W w6 (l ++ [⟨1, 26, 1, 0⟩] ++ [⟨1, C, c.count, 0⟩] ++ F ++ [⟨5, C, C, 26⟩] ++ [⟨13, C, B, B⟩] ++ [⟨12, (l.length + 2 : Nat), 0, 0⟩])) := by
  have h9 := HS5.out.trans hs6
  rw [show ((l.length : Int) + 2) = ((l.length + 2 : Nat) : Int) by omega] at h9
  exact h9
 clear hs6
 go_wp2_with fail
 go_end0
 refine ⟨rfl, WStep.pre HBW.out (WStep.wide (R := (fun k => S k ∧ k < w.heap.size)) ?_ (fun k hk => hk.1))⟩
 have e9 : l ++ ((⟨1, 26, 1, 0⟩ : Ic) :: ⟨1, (C : Int), c.count, 0⟩ :: (F ++ [⟨5, C, C, 26⟩, ⟨13, C, B, B⟩, ⟨12, (l.length + 2 : Nat), 0, 0⟩])) = l ++ [⟨1, 26, 1, 0⟩] ++ [⟨1, C, c.count, 0⟩] ++ F ++ [⟨5, C, C, 26⟩] ++ [⟨13, C, B, B⟩] ++ [⟨12, (l.length + 2 : Nat), 0, 0⟩] := by simp
 rw [e9]
 exact HS6.out
set_option maxRecDepth 100000 in
set_option maxHeartbeats 8000000 in
theorem grule_any (n : Nat) (ih : GenCalls n) (b : Nat) (S : Nat → Prop) (l : List Ic) (q : Core × List (RT n) × List (RT n)) (loops : Nat) (P : Nat → Prop) (ve v1 v2 : Value) (w : World) (hc : CoreOk q.1) (h1 : TreeOk n q.2.1) (h2 : TreeOk n q.2.2) (hw : l.length + (genT (genF n) l.length loops q).length ≤ 100000) (hlo : loops + n ≤ 99) (hS : WrAt w b S l) (hve : PartsV w P ve q.1.parts) (hr1 : RulesV n w P v1 q.2.1) (hr2 : RulesV n w P v2 q.2.2) (hP : ∀ k, P k → k < b) (hSb : ∀ k, S k → b < k) :
  Calls Tryz.prog 45 #[.pointer (some ⟨b, 0, none⟩), .agg #[.int .i64 q.1.kind, .int .i64 q.1.place, .int .i64 q.1.name, .int .i64 q.1.label, .int .i64 q.1.count, ve, v1, v2], .int .i64 loops] w fun e w' => e = .returned (.tuple #[]) ∧ WStep b S w w' (l ++ genT (genF n) l.length loops q) := by
 obtain ⟨k0, k4⟩ := hc.kind
 have HC3 : Hid (∀ w', q.1.kind = 3 → _) := fun (w' : World) hk (hb : Below w.heap.size w w') => gcond_any n ih b S l q loops P ve v1 v2 w' hc h1 h2 hw hlo (hS.keep hb (Nat.le_refl _)) (partsV_below hve hb) (rulesV_below hr1 hb) (rulesV_below hr2 hb) hP hSb hk
 have HC4 : Hid (∀ w', q.1.kind = 4 → _) := fun (w' : World) hk (hb : Below w.heap.size w w') => gloop_any n ih b S l q loops P ve v1 v2 w' hc h1 h2 hw hlo (hS.keep hb (Nat.le_refl _)) (partsV_below hve hb) (rulesV_below hr1 hb) (rulesV_below hr2 hb) hP hSb hk
 obtain ⟨c, l1, l2⟩ := q
 simp only at *
 have hlw := hS.lt
 have hle := exprI_len c.parts 35
 generalize hGT : genT (genF n) l.length loops (c, l1, l2) = GT at *
 unfold genT at hGT
 simp only at hGT
 obtain ⟨ae, ne, ce, hvee⟩ : ∃ aa nn cc, ve = .slice aa nn cc := by
  rcases Joins.ownsRow_forms hve.1 with ⟨rfl, _⟩ | ⟨g, cap, rfl⟩ <;> exact ⟨_, _, _, rfl⟩
 subst hvee
 obtain ⟨a1, n1, c1, hv1⟩ := rulesV_form hr1
 obtain ⟨a2, n2, c2, hv2⟩ := rulesV_form hr2
 have hEV : v1 = .slice a1 n1 c1 ∧ v2 = .slice a2 n2 c2 := ⟨hv1, hv2⟩
 clear hv1 hv2
 obtain ⟨rfl, rfl⟩ := hEV
 generalize hW : w.alloc (.cells #[.int .i64 c.kind, .int .i64 c.place, .int .i64 c.name, .int .i64 c.label, .int .i64 c.count, .slice ae ne ce, .slice a1 n1 c1, .slice a2 n2 c2] 96) = W
 have HWe : Hid _ := hW
 have hBB : Below w.heap.size w W := by rw [← hW]; exact (Below.refl _ _).alloc (Nat.le_refl _) _
 have hWs : W.heap.size = w.heap.size + 1 := by rw [← hW]; simp
 have q5 : W.cell? ⟨w.heap.size, 5, none⟩ = some (.slice ae ne ce) := by rw [← hW]; simp [go_sem]
 have q6 : W.cell? ⟨w.heap.size, 6, none⟩ = some (.slice a1 n1 c1) := by rw [← hW]; simp [go_sem]
 have q7 : W.cell? ⟨w.heap.size, 7, none⟩ = some (.slice a2 n2 c2) := by rw [← hW]; simp [go_sem]
 have HVE : Hid (PartsV W P (.slice ae ne ce) c.parts) := partsV_below hve hBB
 have HR1 : Hid (RulesV n W P (.slice a1 n1 c1) l1) := rulesV_below hr1 hBB
 have HR2 : Hid (RulesV n W P (.slice a2 n2 c2) l2) := rulesV_below hr2 hBB
 have HWR : Hid (WrAt W b (fun k => S k ∧ k < w.heap.size) l) := hS.narrow.keep hBB (Nat.le_refl _)
 have HBW : Hid (Below w.heap.size w W) := hBB
 have H1 : Hid (TreeOk n l1) := h1
 have H2 : Hid (TreeOk n l2) := h2
 have HP : Hid (∀ k, P k → k < b) := hP
 have HSB : Hid (∀ k, (S k ∧ k < w.heap.size) → b < k) := fun k hk => hSb k hk.1
 have HSB2 : Hid (∀ k, ((S k ∧ k < w.heap.size) ∨ W.heap.size ≤ k) → b < k) := fun k hk => by rcases hk with hk | hk; exact hSb k hk.1; omega
 have HKEEP : Hid (∀ (w' : World) (m : List Ic), WStep b (fun k => S k ∧ k < w.heap.size) W w' m → ∀ o, w'.cell? ⟨w.heap.size, o, none⟩ = W.cell? ⟨w.heap.size, o, none⟩) := fun w' m h o => World.cell?_of_block (a := ⟨w.heap.size, o, none⟩) (h.onto.block w.heap.size (by omega) (by omega) (fun e => absurd e.2 (Nat.lt_irrefl _)))
 have IH : Hid (GenCalls n) := ih
 have hfew := hc.few
 have HEV : Hid (∀ (w' : World) (m : List Ic), WStep b (fun k => S k ∧ k < w.heap.size) W w' m → Below b W w') := fun w' m h => h.onto.below (by omega) HSB.out
 have q0 : W.cell? ⟨w.heap.size, 0, none⟩ = some (.int .i64 c.kind) := by rw [← hW]; simp [go_sem]
 have q1 : W.cell? ⟨w.heap.size, 1, none⟩ = some (.int .i64 c.place) := by rw [← hW]; simp [go_sem]
 have q2 : W.cell? ⟨w.heap.size, 2, none⟩ = some (.int .i64 c.name) := by rw [← hW]; simp [go_sem]
 have q3 : W.cell? ⟨w.heap.size, 3, none⟩ = some (.int .i64 c.label) := by rw [← hW]; simp [go_sem]
 have q4 : W.cell? ⟨w.heap.size, 4, none⟩ = some (.int .i64 c.count) := by rw [← hW]; simp [go_sem]
 by_cases e0 : c.kind = 0
 ·rw [if_pos e0] at hGT
  have HGT : Hid (l ++ exprI c.parts 35 ++ [⟨2, c.name, 35, 0⟩] = l ++ GT) := by show _ = _; rw [← hGT]; simp
  have hw2 : l.length + c.parts.length + 1 ≤ 100000 := by rw [← hGT] at hw; simp [hle] at hw; omega
  have he1 : (l ++ exprI c.parts 35).length ≤ 100000 := by simp [hle]; omega
  have t0 : (c.kind == 0) = true := by simp [e0]
  clear hve hr1 hr2 hS hc h1 h2 hP hSb ih hBB hW hGT hw HC3 HC4 e0 hle
  go_enter Tryz.func45, Tryz.ntmps45
  go_upto_region 1 with fail
  rw [HWe.out]
  go_wp2_with (first | (go_at_call 61; refine (gexpr_any b _ l c.parts P _ _ HWR.out (by omega) hfew HVE.out HP.out HSB.out).mono ?_; rintro r1 w1 ⟨rfl, hs1⟩; have HS1 : Hid (WStep b (fun k => S k ∧ k < w.heap.size) W w1 (l ++ exprI c.parts 35)) := hs1; have k1 := (HKEEP.out _ _ HS1.out 1).trans q1; have k2 := (HKEEP.out _ _ HS1.out 2).trans q2; have k3 := (HKEEP.out _ _ HS1.out 3).trans q3; clear hs1) | (go_at_call 29; refine (put_any b _ _ _ _ _ _ _ HS1.out.here he1).mono ?_; rintro r2 w2 ⟨rfl, hs2⟩; have HS2 : Hid (WStep b (fun k => S k ∧ k < w.heap.size) W w2 _) := HS1.out.trans hs2; clear hs2))
  go_end0
  refine ⟨rfl, WStep.pre HBW.out (WStep.wide (R := (fun k => S k ∧ k < w.heap.size)) ?_ (fun k hk => hk.1))⟩
  rw [← HGT.out]
  exact HS2.out
 have t0 : (c.kind == 0) = false := by simpa using e0
 rw [if_neg e0] at hGT
 by_cases e1 : c.kind = 1
 ·rw [if_pos e1] at hGT
  have HGT : Hid (l ++ exprI c.parts 35 ++ [⟨2, c.name, 35, 0⟩] ++ [⟨15, c.place, c.label, 35⟩] = l ++ GT) := by show _ = _; rw [← hGT]; simp
  have hw2 : l.length + c.parts.length + 2 ≤ 100000 := by rw [← hGT] at hw; simp [hle] at hw; omega
  have he1 : (l ++ exprI c.parts 35).length ≤ 100000 := by simp [hle]; omega
  have he2 : (l ++ exprI c.parts 35 ++ [(⟨2, c.name, 35, 0⟩ : Ic)]).length ≤ 100000 := by simp [hle]; omega
  have t1 : (c.kind == 1) = true := by simp [e1]
  clear hve hr1 hr2 hS hc h1 h2 hP hSb ih hBB hW hGT hw HC3 HC4 e0 e1 hle
  go_enter Tryz.func45, Tryz.ntmps45
  go_upto_region 1 with fail
  rw [HWe.out]
  go_upto_region 8 with (first | (go_at_call 61; refine (gexpr_any b _ l c.parts P _ _ HWR.out (by omega) hfew HVE.out HP.out HSB.out).mono ?_; rintro r1 w1 ⟨rfl, hs1⟩; have HS1 : Hid (WStep b (fun k => S k ∧ k < w.heap.size) W w1 (l ++ exprI c.parts 35)) := hs1; have k1 := (HKEEP.out _ _ HS1.out 1).trans q1; have k2 := (HKEEP.out _ _ HS1.out 2).trans q2; have k3 := (HKEEP.out _ _ HS1.out 3).trans q3; clear hs1) | (go_at_call 29; refine (put_any b _ _ _ _ _ _ _ HS1.out.here he1).mono ?_; rintro r2 w2 ⟨rfl, hs2⟩; have HS2 : Hid (WStep b (fun k => S k ∧ k < w.heap.size) W w2 (l ++ exprI c.parts 35 ++ [⟨2, c.name, 35, 0⟩])) := HS1.out.trans hs2; have j1 := (HKEEP.out _ _ HS2.out 1).trans q1; have j3 := (HKEEP.out _ _ HS2.out 3).trans q3; clear hs2))
  go_wp2_with (first | (go_at_call 29; refine (put_any b _ _ _ _ _ _ _ HS2.out.here he2).mono ?_; rintro r3 w3 ⟨rfl, hs3⟩; have HS3 : Hid (WStep b (fun k => S k ∧ k < w.heap.size) W w3 _) := HS2.out.trans hs3; clear hs3))
  go_end0
  refine ⟨rfl, WStep.pre HBW.out (WStep.wide (R := (fun k => S k ∧ k < w.heap.size)) ?_ (fun k hk => hk.1))⟩
  rw [← HGT.out]
  exact HS3.out
 have t1 : (c.kind == 1) = false := by simpa using e1
 rw [if_neg e1] at hGT
 by_cases e2 : c.kind = 2
 ·rw [if_pos e2] at hGT
  have HGT : Hid (l ++ exprI c.parts 35 ++ [⟨14, c.place, c.label, 35⟩] = l ++ GT) := by show _ = _; rw [← hGT]; simp
  have hw2 : l.length + c.parts.length + 1 ≤ 100000 := by rw [← hGT] at hw; simp [hle] at hw; omega
  have he1 : (l ++ exprI c.parts 35).length ≤ 100000 := by simp [hle]; omega
  have t2 : (c.kind == 2) = true := by simp [e2]
  clear hve hr1 hr2 hS hc h1 h2 hP hSb ih hBB hW hGT hw HC3 HC4 e0 e1 e2 hle
  go_enter Tryz.func45, Tryz.ntmps45
  go_upto_region 1 with fail
  rw [HWe.out]
  go_wp2_with (first | (go_at_call 61; refine (gexpr_any b _ l c.parts P _ _ HWR.out (by omega) hfew HVE.out HP.out HSB.out).mono ?_; rintro r1 w1 ⟨rfl, hs1⟩; have HS1 : Hid (WStep b (fun k => S k ∧ k < w.heap.size) W w1 (l ++ exprI c.parts 35)) := hs1; have k1 := (HKEEP.out _ _ HS1.out 1).trans q1; have k2 := (HKEEP.out _ _ HS1.out 2).trans q2; have k3 := (HKEEP.out _ _ HS1.out 3).trans q3; clear hs1) | (go_at_call 29; refine (put_any b _ _ _ _ _ _ _ HS1.out.here he1).mono ?_; rintro r2 w2 ⟨rfl, hs2⟩; have HS2 : Hid (WStep b (fun k => S k ∧ k < w.heap.size) W w2 _) := HS1.out.trans hs2; clear hs2))
  go_end0
  refine ⟨rfl, WStep.pre HBW.out (WStep.wide (R := (fun k => S k ∧ k < w.heap.size)) ?_ (fun k hk => hk.1))⟩
  rw [← HGT.out]
  exact HS2.out
 have t2 : (c.kind == 2) = false := by simpa using e2
 by_cases e3 : c.kind = 3
 ·have t3 : (c.kind == 3) = true := by simp [e3]
  have HCC : Hid (Calls Tryz.prog 62 #[.pointer (some ⟨b, 0, none⟩), .agg #[.int .i64 c.kind, .int .i64 c.place, .int .i64 c.name, .int .i64 c.label, .int .i64 c.count, .slice ae ne ce, .slice a1 n1 c1, .slice a2 n2 c2], .int .i64 loops] W fun e w' => e = .returned (.tuple #[]) ∧ WStep b S W w' (l ++ GT)) := HC3.out W e3 HBW.out
  clear hve hr1 hr2 hS hc h1 h2 hP hSb ih hBB hW hGT hw HC3 HC4 e0 e1 e2 e3 hle
  go_enter Tryz.func45, Tryz.ntmps45
  go_upto_region 1 with fail
  rw [HWe.out]
  go_wp2_with (first | (go_at_call 62; refine HCC.out.mono ?_; rintro r2 w2 ⟨rfl, hs2⟩; have HS2 : Hid (WStep b S W w2 _) := hs2; clear hs2))
  go_end0
  exact ⟨rfl, WStep.pre HBW.out HS2.out⟩
 ·have t3 : (c.kind == 3) = false := by simpa using e3
  have e4 : c.kind = 4 := by omega
  have t4 : (c.kind == 4) = true := by simp [e4]
  have HCC : Hid (Calls Tryz.prog 63 #[.pointer (some ⟨b, 0, none⟩), .agg #[.int .i64 c.kind, .int .i64 c.place, .int .i64 c.name, .int .i64 c.label, .int .i64 c.count, .slice ae ne ce, .slice a1 n1 c1, .slice a2 n2 c2], .int .i64 loops] W fun e w' => e = .returned (.tuple #[]) ∧ WStep b S W w' (l ++ GT)) := HC4.out W e4 HBW.out
  clear hve hr1 hr2 hS hc h1 h2 hP hSb ih hBB hW hGT hw HC3 HC4 e0 e1 e2 e3 e4 hle
  go_enter Tryz.func45, Tryz.ntmps45
  go_upto_region 1 with fail
  rw [HWe.out]
  go_wp2_with (first | (go_at_call 63; refine HCC.out.mono ?_; rintro r2 w2 ⟨rfl, hs2⟩; have HS2 : Hid (WStep b S W w2 _) := hs2; clear hs2))
  go_end0
  exact ⟨rfl, WStep.pre HBW.out HS2.out⟩
set_option maxRecDepth 100000 in
set_option maxHeartbeats 1000000 in
theorem grules_zero : GenCalls 0 := by
 intro b S l r loops P v w ht hw hlo hS hv hP hSb
 obtain ⟨ao, cap, rfl⟩ : ∃ ao cap, v = .slice ao 0 cap := by
  rcases Joins.ownsRow_forms hv.1 with ⟨rfl, _⟩ | ⟨g, cap, rfl⟩ <;> exact ⟨_, _, rfl⟩
 clear hv
 have e : l ++ genF 0 l.length loops r = l := by simp [genF]
 rw [e]
 have HS : Hid (WrAt w b S l) := hS
 clear hS hw ht e
 go_enter Tryz.func28, Tryz.ntmps28
 go_wp2_with fail
 go_loopw [10] (fun x w' => x = .int .i64 0 ∧ w' = w) (fun _ _ => 0)
 case atStart => exact ⟨rfl, rfl⟩
 case round =>
  obtain ⟨rfl, hb⟩ := hrel
  rw [hb]
  go_wp2_with fail
  go_end0
  exact ⟨rfl, WStep.still HS.out (Below.refl _ _)⟩
theorem genL_cons {α : Type} (rec : Nat → Nat → List α → List Ic) (p loops : Nat) (q : Core × List α × List α) (r : List (Core × List α × List α)) : genL rec p loops (q :: r) = genT rec p loops q ++ genL rec (p + (genT rec p loops q).length) loops r := rfl
set_option maxRecDepth 100000 in
set_option maxHeartbeats 4000000 in
theorem grules_step (n : Nat) (ih : GenCalls n) (b : Nat) (S : Nat → Prop) (l : List Ic) (r : List (Core × List (RT n) × List (RT n))) (loops : Nat) (P : Nat → Prop) (v : Value) (w : World) (hl : r.length ≤ 1000) (hok : ∀ q ∈ r, CoreOk q.1 ∧ TreeOk n q.2.1 ∧ TreeOk n q.2.2) (hw : l.length + (genL (genF n) l.length loops r).length ≤ 100000) (hlo : loops + n ≤ 99) (hS : WrAt w b S l) (hv : RowsC (fun cs q => RuleC (RulesV n w P) w P cs q) w P v r) (hP : ∀ k, P k → k < b) (hSb : ∀ k, S k → b < k) :
  Calls Tryz.prog 28 #[.pointer (some ⟨b, 0, none⟩), v, .int .i64 loops] w fun e w' => e = .returned (.tuple #[]) ∧ WStep b S w w' (l ++ genL (genF n) l.length loops r) := by
 obtain ⟨ao, gb, cap, rfl, hcells⟩ := rules_at2 hv
 have hlt0 := hS.lt
 have HOK : Hid _ := hok
 have HC : Hid _ := hcells
 have IH : Hid (GenCalls n) := ih
 have HST0 : Hid (WStep b S w w l) := WStep.still hS (Below.refl _ _)
 have HW0 : Hid (l.length + (genL (genF n) l.length loops (r.drop 0)).length ≤ 100000) := hw
 have HP : Hid (∀ k, P k → k < b) := hP
 have HSB : Hid (∀ k, S k → b < k) := hSb
 generalize hR : l ++ genL (genF n) l.length loops r = R at *
 have HR : Hid (l ++ genL (genF n) l.length loops (r.drop 0) = R) := hR
 clear hcells hok ih hR hv hw hS hP hSb
 go_enter Tryz.func28, Tryz.ntmps28
 go_wp2_with fail
 go_loopw [10] (fun x w' => ∃ (k : Nat) (m : List Ic), x = .int .i64 k ∧ k ≤ r.length ∧ Hid (m.length + (genL (genF n) m.length loops (r.drop k)).length ≤ 100000) ∧ Hid (WStep b S w w' m) ∧ Hid (m ++ genL (genF n) m.length loops (r.drop k) = R)) (fun x _ => r.length - (intOf x).toNat)
 case atStart => exact ⟨0, l, rfl, by omega, HW0, HST0, HR⟩
 case round =>
  obtain ⟨k, m, rfl, hk, HWK, HST, HL⟩ := hrel
  by_cases hlt : k < r.length
  ·have tk : decide ((k : Int) < (r.length : Int)) = true := by simp; omega
   obtain ⟨e0, hgb, cs, hru, hcs⟩ := HC.out k hlt
   obtain ⟨okc, ok1, ok2⟩ := HOK.out r[k] (List.getElem_mem hlt)
   have hstep := HL.out
   have hwk := HWK.out
   rw [List.drop_eq_getElem_cons hlt, genL_cons] at hstep hwk
   have hBl : Below b w wr := HST.out.onto.below hlt0 HSB.out
   generalize hq : r[k] = q at *
   obtain ⟨ve, v1, v2, hcs0, hpe, hr1, hr2⟩ := hru
   subst hcs0
   obtain ⟨ae, ne, ce, hve⟩ : ∃ aa nn cc, ve = .slice aa nn cc := by
    rcases Joins.ownsRow_forms hpe.1 with ⟨rfl, _⟩ | ⟨g, cap, rfl⟩ <;> exact ⟨_, _, _, rfl⟩
   obtain ⟨a1, n1, c1, hv1⟩ := rulesV_form hr1
   obtain ⟨a2, n2, c2, hv2⟩ := rulesV_form hr2
   have hEV : ve = .slice ae ne ce ∧ v1 = .slice a1 n1 c1 ∧ v2 = .slice a2 n2 c2 := ⟨hve, hv1, hv2⟩
   clear hve hv1 hv2
   obtain ⟨rfl, rfl, rfl⟩ := hEV
   have hgbb : gb < b := HP.out gb hgb
   have d : ∀ j, j < 8 → wr.cell? ⟨gb, k * 8 + j, none⟩ = (coreV q.1 ++ [.slice ae ne ce, .slice a1 n1 c1, .slice a2 n2 c2])[j]? := fun j hj => (hBl.cell (p := ⟨gb, k * 8 + j, none⟩) hgbb).trans (hcs j hj)
   have d0 : wr.cell? ⟨gb, k * 8, none⟩ = some (.int .i64 q.1.kind) := d 0 (by omega)
   have d1 : wr.cell? ⟨gb, k * 8 + 1, none⟩ = some (.int .i64 q.1.place) := d 1 (by omega)
   have d2 : wr.cell? ⟨gb, k * 8 + 2, none⟩ = some (.int .i64 q.1.name) := d 2 (by omega)
   have d3 : wr.cell? ⟨gb, k * 8 + 3, none⟩ = some (.int .i64 q.1.label) := d 3 (by omega)
   have d4 : wr.cell? ⟨gb, k * 8 + 4, none⟩ = some (.int .i64 q.1.count) := d 4 (by omega)
   have d5 : wr.cell? ⟨gb, k * 8 + 5, none⟩ = some (.slice ae ne ce) := d 5 (by omega)
   have d6 : wr.cell? ⟨gb, k * 8 + 6, none⟩ = some (.slice a1 n1 c1) := d 6 (by omega)
   have d7 : wr.cell? ⟨gb, k * 8 + 7, none⟩ = some (.slice a2 n2 c2) := d 7 (by omega)
   subst e0
   have hz : w.heap.size ≤ wr.heap.size := HST.out.onto.size
   have hlr : b < wr.heap.size := HST.out.here.lt
   have OKC : Hid (CoreOk q.1) := okc
   have OK1 : Hid (TreeOk n q.2.1) := ok1
   have OK2 : Hid (TreeOk n q.2.2) := ok2
   have HPE : Hid (PartsV wr P (.slice ae ne ce) q.1.parts) := partsV_lower hpe HP.out hBl
   have HR1 : Hid (RulesV n wr P (.slice a1 n1 c1) q.2.1) := rulesV_lower hr1 HP.out hBl
   have HR2 : Hid (RulesV n wr P (.slice a2 n2 c2) q.2.2) := rulesV_lower hr2 HP.out hBl
   have HSB2 : Hid (∀ i, (S i ∨ w.heap.size ≤ i) → b < i) := fun i hi => by
    rcases hi with hi | hi
    ·exact HSB.out i hi
    ·omega
   rw [List.length_append] at hwk
   have HDS : Hid ((m ++ genT (genF n) m.length loops q) ++ genL (genF n) (m ++ genT (genF n) m.length loops q).length loops (r.drop (k + 1)) = R) := by
    show _ = _
    rw [← hstep, List.length_append]
    simp
   have HWN : Hid (m.length + (genT (genF n) m.length loops q).length ≤ 100000) := by show _ ≤ _; omega
   have HWM : Hid ((m ++ genT (genF n) m.length loops q).length + (genL (genF n) (m ++ genT (genF n) m.length loops q).length loops (r.drop (k + 1))).length ≤ 100000) := by
    show _ ≤ _
    rw [List.length_append]
    omega
   clear hstep hwk okc ok1 ok2 hpe hr1 hr2 hcs d hq hBl
   go_wp2_with fail
   have hBA : Below wr.heap.size wr (wr.alloc (.cells #[.int .i64 q.1.kind, .int .i64 q.1.place, .int .i64 q.1.name, .int .i64 q.1.label, .int .i64 q.1.count, .slice ae ne ce, .slice a1 n1 c1, .slice a2 n2 c2] 96)) := (Below.refl _ _).alloc (Nat.le_refl _) _
   refine (grule_any n IH.out b _ m q loops P _ _ _ _ OKC.out OK1.out OK2.out HWN.out hlo (HST.out.here.keep hBA (Nat.le_refl _)) (partsV_below HPE.out hBA) (rulesV_below HR1.out hBA) (rulesV_below HR2.out hBA) HP.out HSB2.out).mono ?_
   rintro e w1 ⟨rfl, hs1⟩
   have HST1 : Hid (WStep b S w w1 (m ++ genT (genF n) m.length loops q)) := HST.out.trans (hs1.pre hBA)
   clear hs1 hBA HST d0 d1 d2 d3 d4 d5 d6 d7
   go_wp2_with fail
   go_roundw
   case rel => exact ⟨k + 1, _, by go_num, by omega, HWM, HST1, HDS⟩
   case measure => simp [intOf]; omega
  ·have tk : decide ((k : Int) < (r.length : Int)) = false := by simp; omega
   have hfin : m = R := by
    have := HL.out
    rw [List.drop_of_length_le (by omega)] at this
    simpa [genL] using this
   have HF : Hid _ := hfin
   clear hfin
   go_wp2_with fail
   go_end0
   rw [← HF.out]
   exact ⟨rfl, HST.out⟩
theorem grules_any : ∀ n, GenCalls n
 | 0 => grules_zero
 | n + 1 => fun b S l r loops P v w ht hw hlo hS hv hP hSb => grules_step n (grules_any n) b S l r loops P v w ht.1 ht.2 hw (by omega) hS hv hP hSb
end Go.Proofs.YtdgmoiflahoihabGreat
