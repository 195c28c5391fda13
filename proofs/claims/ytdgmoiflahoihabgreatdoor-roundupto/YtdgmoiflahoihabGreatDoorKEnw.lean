import Derived.Test.YtdgmoiflahoihabGreatDoorBBw
import Derived.Deep.MidRow

namespace Go.Proofs.YtdgmoiflahoihabGreatDoor
open Go.RowKit
set_option linter.unusedSimpArgs false
set_option linter.unusedVariables false
structure LabAt (w : World) (b : Nat) (of : List Nat) (fx : List Bool) (gr : Bool) : Prop where
 lab : ∀ k, k < 26 → w.cell? ⟨b, k, none⟩ = some (.int .i64 (of.getD k 0 : Nat))
 fix : ∀ k, k < 26 → w.cell? ⟨b, 26 + k, none⟩ = some (.bool (fx.getD k false))
 gro : w.cell? ⟨b, 52, none⟩ = some (.bool gr)
 fz : ∀ o, w.frozen? ⟨b, o, none⟩ = false
theorem LabAt.lt {w : World} {b : Nat} {of : List Nat} {fx : List Bool} {gr : Bool} (h : LabAt w b of fx gr) : b < w.heap.size := World.block_lt_of_cell? w _ h.gro
theorem LabAt.range {w : World} {b : Nat} {of : List Nat} {fx : List Bool} {gr : Bool} (h : LabAt w b of fx gr) (hof : of.length = 26) : w.rangeAt b 0 (of.map natV) := by
 intro j v hv
 rw [List.getElem?_map] at hv
 cases e : of[j]? with
 | none => rw [e] at hv; cases hv
 | some x =>
  rw [e] at hv
  cases hv
  have hj : j < 26 := by have := (List.getElem?_eq_some_iff.mp e).1; omega
  have := h.lab j hj
  rw [List.getD_eq_getElem?_getD, e] at this
  simpa [natV] using this
theorem LabAt.block {w w' : World} {b : Nat} {of : List Nat} {fx : List Bool} {gr : Bool} (h : LabAt w b of fx gr) (hb : w'.heap[b]? = w.heap[b]?) : LabAt w' b of fx gr :=
 ⟨fun k hk => (World.cell?_of_block (a := ⟨b, k, none⟩) hb).trans (h.lab k hk), fun k hk => (World.cell?_of_block (a := ⟨b, 26 + k, none⟩) hb).trans (h.fix k hk), (World.cell?_of_block (a := ⟨b, 52, none⟩) hb).trans h.gro, fun o => (World.frozen?_of_block (a := ⟨b, o, none⟩) hb).trans (h.fz o)⟩
theorem LabAt.below {w w' : World} {b : Nat} {of : List Nat} {fx : List Bool} {gr : Bool} (h : LabAt w b of fx gr) (hb : Below w.heap.size w w') : LabAt w' b of fx gr := h.block (hb.block b h.lt)
theorem LabAt.setGro {w : World} {b : Nat} {of : List Nat} {fx : List Bool} {gr : Bool} (h : LabAt w b of fx gr) (u : Bool) : LabAt (w.setCell ⟨b, 52, none⟩ (.bool u)) b of fx u := by
 refine ⟨fun k hk => ?_, fun k hk => ?_, ?_, fun o => ?_⟩
 ·rw [World.cell?_setCell_other _ _ _ _ (by intro e; have e2 := congrArg Addr.off e; simp only at e2; omega)]; exact h.lab k hk
 ·rw [World.cell?_setCell_other _ _ _ _ (by intro e; have e2 := congrArg Addr.off e; simp only at e2; omega)]; exact h.fix k hk
 ·exact World.cell?_setCell_same _ _ _ h.gro
 ·simpa using h.fz o
theorem LabAt.setLab {w : World} {b : Nat} {of : List Nat} {fx : List Bool} {gr : Bool} (h : LabAt w b of fx gr) (hof : of.length = 26) (k m : Nat) (hk : k < 26) : LabAt (w.setCell ⟨b, k, none⟩ (.int .i64 (m : Nat))) b (of.set k m) fx gr := by
 refine ⟨fun j hj => ?_, fun j hj => ?_, ?_, fun o => ?_⟩
 ·by_cases e : j = k
  ·subst e
   rw [World.cell?_setCell_same _ _ _ (h.lab j hj)]
   simp [List.getD_eq_getElem?_getD, hof, hj]
  ·rw [World.cell?_setCell_other _ _ _ _ (by intro e; have e2 := congrArg Addr.off e; simp only at e2; omega), h.lab j hj]
   simp [List.getD_eq_getElem?_getD, List.getElem?_set, Ne.symm e]
 ·rw [World.cell?_setCell_other _ _ _ _ (by intro e; have e2 := congrArg Addr.off e; simp only at e2; omega)]; exact h.fix j hj
 ·rw [World.cell?_setCell_other _ _ _ _ (by intro e; have e2 := congrArg Addr.off e; simp only at e2; omega)]; exact h.gro
 ·simpa using h.fz o
theorem LabAt.setFix {w : World} {b : Nat} {of : List Nat} {fx : List Bool} {gr : Bool} (h : LabAt w b of fx gr) (hfx : fx.length = 26) (k : Nat) (u : Bool) (hk : k < 26) : LabAt (w.setCell ⟨b, 26 + k, none⟩ (.bool u)) b of (fx.set k u) gr := by
 refine ⟨fun j hj => ?_, fun j hj => ?_, ?_, fun o => ?_⟩
 ·rw [World.cell?_setCell_other _ _ _ _ (by intro e; have e2 := congrArg Addr.off e; simp only at e2; omega)]; exact h.lab j hj
 ·by_cases e : j = k
  ·subst e
   rw [World.cell?_setCell_same _ _ _ (h.fix j hj)]
   simp [List.getD_eq_getElem?_getD, hfx, hj]
  ·rw [World.cell?_setCell_other _ _ _ _ (by intro e; have e2 := congrArg Addr.off e; simp only at e2; omega), h.fix j hj]
   simp [List.getD_eq_getElem?_getD, List.getElem?_set, Ne.symm e]
 ·rw [World.cell?_setCell_other _ _ _ _ (by intro e; have e2 := congrArg Addr.off e; simp only at e2; omega)]; exact h.gro
 ·simpa using h.fz o
set_option maxRecDepth 100000 in
set_option maxHeartbeats 1000000 in
theorem enlarge_any (b k lab : Nat) (of : List Nat) (fx : List Bool) (gr : Bool) (w : World) (hof : OfOk of) (hk : k < 26) (hl : lab < 16) (h : LabAt w b of fx gr) :
  Calls Tryz.prog 93 #[.pointer (some ⟨b, 0, none⟩), .int .i64 k, .int .i64 lab] w fun e w' => e = .returned (.tuple #[]) ∧ LabAt w' b (enlP fx (of, gr) k lab).1 fx (enlP fx (of, gr) k lab).2 ∧ But b w w' := by
 have hq := h.lab k hk
 have hx := h.fix k hk
 have hg := h.gro
 have hf := h.fz
 have hqm := getD_lt hof.lt k
 have HH : Hid (LabAt w b of fx gr) := h
 have HOF : Hid (OfOk of) := hof
 unfold enlP
 simp only
 generalize of.getD k 0 = q at *
 generalize fx.getD k false = fk at *
 clear h hof
 cases fk
 ·simp only [Bool.false_or]
  cases t1 : goesB lab q
  ·simp only [Bool.false_eq_true, if_false]
   have ho := i64_or_nat q lab (by omega) (by omega)
   go_enter Tryz.func93, Tryz.ntmps93
   go_wp2_with fail
   refine (flows_is lab q false _ hl hqm t1).mono ?_
   rintro e w1 ⟨rfl, rfl⟩
   go_wp2_with fail
   go_region
   all_goals go_wp2_with fail
   all_goals go_end0
   all_goals exact ⟨rfl, LabAt.block ((HH.out.setLab HOF.out.len k (q ||| lab) hk).setGro true) rfl, (((But.refl _ _).set k _).set 52 _).drewN 1⟩
  ·simp only [if_true]
   go_enter Tryz.func93, Tryz.ntmps93
   go_wp2_with fail
   refine (flows_is lab q true _ hl hqm t1).mono ?_
   rintro e w1 ⟨rfl, rfl⟩
   go_wp2_with fail
   refine bodyPost_ret (results_none rfl _ _ _) rfl ?_
   exact ⟨rfl, HH.out, But.refl _ _⟩
 ·simp only [Bool.true_or, if_true]
  go_enter Tryz.func93, Tryz.ntmps93
  go_wp2_with fail
  refine bodyPost_ret (results_none rfl _ _ _) rfl ?_
  exact ⟨rfl, HH.out, But.refl _ _⟩
end Go.Proofs.YtdgmoiflahoihabGreatDoor
namespace Go.Proofs.YtdgmoiflahoihabGreatDoor
open Go.RowKit
set_option linter.unusedSimpArgs false
set_option linter.unusedVariables false
def LabCalls (fx : List Bool) (n : Nat) : Prop := ∀ (b g : Nat) (of : List Nat) (gr : Bool) (l : List (RT n)) (P : Nat → Prop) (v : Value) (w : World), OfOk of → TreeOk n l → g < 16 → LabAt w b of fx gr → RulesV n w P v l → (∀ k, P k → k ≠ b) →
 Calls Tryz.prog 53 #[.pointer (some ⟨b, 0, none⟩), v, .int .i64 g] w fun e w' => e = .returned (.tuple #[]) ∧ LabAt w' b (enlF fx n (of, gr) l g).1 fx (enlF fx n (of, gr) l g).2 ∧ But b w w'
set_option maxRecDepth 100000 in
set_option maxHeartbeats 1000000 in
theorem enlargeFor_step (fx : List Bool) (n : Nat) (ih : LabCalls fx n) (b g : Nat) (of : List Nat) (gr : Bool) (q : Core × List (RT n) × List (RT n)) (P : Nat → Prop) (ve v1 v2 : Value) (w : World) (hof : OfOk of) (hc : CoreOk q.1) (h1 : TreeOk n q.2.1) (h2 : TreeOk n q.2.2) (hg : g < 16) (hL : LabAt w b of fx gr)
  (hve : PartsV w P ve q.1.parts) (hr1 : RulesV n w P v1 q.2.1) (hr2 : RulesV n w P v2 q.2.2) (hP : ∀ k, P k → k ≠ b) :
  Calls Tryz.prog 72 #[.pointer (some ⟨b, 0, none⟩), .agg #[.int .i64 q.1.kind, .int .i64 q.1.place, .int .i64 q.1.name, .int .i64 q.1.label, .int .i64 q.1.count, ve, v1, v2], .int .i64 g] w fun e w' => e = .returned (.tuple #[]) ∧ LabAt w' b (enlR (enlF fx n) fx (of, gr) q g).1 fx (enlR (enlF fx n) fx (of, gr) q g).2 ∧ But b w w' := by
 obtain ⟨c, l1, l2⟩ := q
 simp only at *
 have hlw := hL.lt
 have hlc := hc.label
 have hLl := labL_lt hof.lt c.parts 0 (by omega)
 obtain ⟨ae, ne, ce, hvee⟩ : ∃ aa nn cc, ve = .slice aa nn cc := by
  rcases Joins.ownsRow_forms hve.1 with ⟨rfl, _⟩ | ⟨g, cap, rfl⟩ <;> exact ⟨_, _, _, rfl⟩
 subst hvee
 generalize hW : w.alloc (.cells #[.int .i64 c.kind, .int .i64 c.place, .int .i64 c.name, .int .i64 c.label, .int .i64 c.count, .slice ae ne ce, v1, v2] 104) = W
 have HWe : Hid _ := hW
 have hLW : LabAt W b of fx gr := by rw [← hW]; exact hL.below ((Below.refl _ _).alloc (Nat.le_refl _) _)
 have hBW : But b w W := by rw [← hW]; exact (But.refl _ _).alloc _
 have hBB : Below w.heap.size w W := by rw [← hW]; exact (Below.refl _ _).alloc (Nat.le_refl _) _
 have hWs : W.heap.size = w.heap.size + 1 := by rw [← hW]; simp
 have q0 : W.cell? ⟨w.heap.size, 0, none⟩ = some (.int .i64 c.kind) := by rw [← hW]; simp [go_sem]
 have q2 : W.cell? ⟨w.heap.size, 2, none⟩ = some (.int .i64 c.name) := by rw [← hW]; simp [go_sem]
 have q3 : W.cell? ⟨w.heap.size, 3, none⟩ = some (.int .i64 c.label) := by rw [← hW]; simp [go_sem]
 have q5 : W.cell? ⟨w.heap.size, 5, none⟩ = some (.slice ae ne ce) := by rw [← hW]; simp [go_sem]
 have q6 : W.cell? ⟨w.heap.size, 6, none⟩ = some v1 := by rw [← hW]; simp [go_sem]
 have q7 : W.cell? ⟨w.heap.size, 7, none⟩ = some v2 := by rw [← hW]; simp [go_sem]
 have HVE : Hid (PartsV W P (.slice ae ne ce) c.parts) := partsV_below hve hBB
 have HR1 : Hid (RulesV n W P v1 l1) := rulesV_below hr1 hBB
 have HR2 : Hid (RulesV n W P v2 l2) := rulesV_below hr2 hBB
 have HLW : Hid (LabAt W b of fx gr) := hLW
 have HBW : Hid (But b w W) := hBW
 have hra := hLW.range hof.len
 have HOF : Hid (OfOk of) := hof
 have HC : Hid (CoreOk c) := hc
 have H1 : Hid (TreeOk n l1) := h1
 have H2 : Hid (TreeOk n l2) := h2
 have HP : Hid (∀ k, P k → k ≠ b) := hP
 have IH : Hid (LabCalls fx n) := ih
 have hu35 := Tryz.underlying62
 have hi35 : (Tryz.prog.info? 62).map (fun i => i.size) = some (of.map natV).length := by rw [infoArr, List.length_map, HOF.out.len]
 have hltW : w.heap.size < W.heap.size := by omega
 have hblW : b < W.heap.size := by omega
 generalize hres : enlR (enlF fx n) fx (of, gr) (c, l1, l2) g = res
 have HRES : Hid _ := hres
 generalize hLe : labL of c.parts 0 = L at *
 have HLe : Hid (labL of c.parts 0 = L) := hLe
 clear hve hr1 hr2 hL hof hc h1 h2 hP ih hLW hBW hBB hW hres hLe
 go_enter Tryz.func72, Tryz.ntmps72
 go_upto_region 3 with fail
 rw [HWe.out]
 go_region_held3 (fun w' => w'.rangeAt b 0 (of.map natV) ∧ w'.cell? ⟨w.heap.size, 5, none⟩ = some (.slice ae ne ce)) (first | go_keep | exact ⟨range_keep hb5 hra, (hb5.cell (p := ⟨w.heap.size, 5, none⟩) hltW).trans q5⟩) ((go_at_call 55; refine (labelOf_any of c.parts P _ _ HOF.out.len HOF.out.lt HC.out.few HC.out.parts (partsV_below HVE.out (Below.refl _ _).drew)).mono ?_; rintro x1 w5 ⟨rfl, hb5⟩; rw [HLe.out]))
 have hb6 : Below W.heap.size W w5 := ⟨hb5.os, hb5.tape, hb5.output, hb5.size, hb5.block⟩
 have HL5 : Hid (LabAt w5 b of fx gr) := HLW.out.below hb6
 have HB5 : Hid (But b w w5) := HBW.out.trans ⟨hb6.os, hb6.tape, hb6.output, hb6.size, fun k hk _ => hb6.block k hk⟩
 have HR15 : Hid (RulesV n w5 P v1 l1) := rulesV_below HR1.out hb6
 have HR25 : Hid (RulesV n w5 P v2 l2) := rulesV_below HR2.out hb6
 rw [← hb6.cell (p := ⟨w.heap.size, 0, none⟩) hltW] at q0
 rw [← hb6.cell (p := ⟨w.heap.size, 2, none⟩) hltW] at q2
 rw [← hb6.cell (p := ⟨w.heap.size, 3, none⟩) hltW] at q3
 rw [← hb6.cell (p := ⟨w.heap.size, 6, none⟩) hltW] at q6
 rw [← hb6.cell (p := ⟨w.heap.size, 7, none⟩) hltW] at q7
 have hlt5 : w.heap.size < w5.heap.size := by have := hb6.size; omega
 have hgl := i64_or_nat g L (by omega) (by omega)
 have hglb := i64_or_nat g c.label (by omega) (by omega)
 have hgl16 := or_lt16 hg hLl
 have hglb16 := or_lt16 hg hlc
 rw [hgl]
 clear hb5 hb6 HLW HBW HR1 HR2 hra q5 hu35 hi35 hgl
 generalize hAe : g ||| L = A at *
 have HAe : Hid (g ||| labL of c.parts 0 = A) := by show _ = _; rw [HLe.out]; exact hAe
 clear hAe
 by_cases k0 : c.kind = 0
 ·obtain ⟨n0, n1⟩ := HC.out.name (.inl k0)
  have HF : Hid (enlP fx (of, gr) c.name.toNat A = res) := by show _ = _; rw [← HRES.out]; unfold enlR; simp only; rw [if_pos k0, HAe.out]
  rw [k0] at q0
  generalize hnm : c.name = nm at *
  obtain ⟨nn, rfl⟩ : ∃ nn : Nat, nm = nn := ⟨nm.toNat, by omega⟩
  simp only [Int.toNat_natCast] at HF
  clear hnm k0
  go_wp2_with fail
  refine (enlarge_any b nn A of fx gr _ HOF.out (by omega) hgl16 HL5.out).mono ?_
  rw [HF.out]
  rintro e w6 ⟨rfl, hl6, hb6⟩
  go_wp2_with fail
  go_end0
  exact ⟨rfl, hl6, HB5.out.trans hb6⟩
 by_cases k1 : c.kind = 1
 ·obtain ⟨n0, n1⟩ := HC.out.name (.inr k1)
  have HF : Hid (enlP fx (of, gr) c.name.toNat (g ||| c.label) = res) := by show _ = _; rw [← HRES.out]; unfold enlR; simp only; rw [if_neg k0, if_pos k1]
  rw [k1] at q0
  generalize hnm : c.name = nm at *
  obtain ⟨nn, rfl⟩ : ∃ nn : Nat, nm = nn := ⟨nm.toNat, by omega⟩
  simp only [Int.toNat_natCast] at HF
  clear hnm k0 k1
  generalize g ||| c.label = Y at *
  go_wp2_with fail
  refine (enlarge_any b nn Y of fx gr _ HOF.out (by omega) hglb16 HL5.out).mono ?_
  rw [HF.out]
  rintro e w6 ⟨rfl, hl6, hb6⟩
  go_wp2_with fail
  go_end0
  exact ⟨rfl, hl6, HB5.out.trans hb6⟩
 by_cases k34 : c.kind = 3 ∨ c.kind = 4
 ·have HF : Hid (enlF fx n (enlF fx n (of, gr) l1 A) l2 A = res) := by show _ = _; rw [← HRES.out]; unfold enlR; simp only; rw [if_neg k0, if_neg k1, if_pos k34, HAe.out]
  have hg1 := enlF_grow fx n (of, gr) l1 A HOF.out H1.out hgl16
  generalize hs1 : enlF fx n (of, gr) l1 A = s1 at *
  have HS1 : Hid (enlF fx n (of, gr) l1 A = s1) := hs1
  have HG1 : Hid (OfOk s1.1) := hg1.ok
  have t0 : (c.kind == 0) = false := by simpa using k0
  have t1 : (c.kind == 1) = false := by simpa using k1
  obtain ⟨a1, n1, c1, hv1⟩ := rulesV_form HR15.out
  obtain ⟨a2, n2, c2, hv2⟩ := rulesV_form HR25.out
  subst hv1 hv2
  clear hs1 hg1 k0 k1
  rcases k34 with k3 | k3
  all_goals
   rw [k3] at q0
   clear k3 t0 t1
   go_wp2_with fail
   refine (IH.out b A of gr l1 P _ _ HOF.out H1.out hgl16 HL5.out HR15.out HP.out).mono ?_
   rw [HS1.out]
   rintro e w6 ⟨rfl, hl6, hb6⟩
   have q77 : w6.cell? ⟨w.heap.size, 7, none⟩ = some (.slice a2 n2 c2) := hb6.cell q7 (fun e => by have := Option.some.inj e; simp only at this; omega)
   have HR26 : Hid (RulesV n w6 P (.slice a2 n2 c2) l2) := rulesV_but HR25.out hb6 HP.out
   clear q0 q2 q3 q6 q7
   go_wp2_with fail
   refine (IH.out b A s1.1 s1.2 l2 P _ _ HG1.out H2.out hgl16 hl6 HR26.out HP.out).mono ?_
   rw [HF.out]
   rintro e w7 ⟨rfl, hl7, hb7⟩
   go_wp2_with fail
   go_end0
   exact ⟨rfl, hl7, (HB5.out.trans hb6).trans hb7⟩
 ·have HF : Hid ((of, gr) = res) := by show _ = _; rw [← HRES.out]; unfold enlR; simp only; rw [if_neg k0, if_neg k1, if_neg k34]
  have t0 : (c.kind == 0) = false := by simpa using k0
  have t1 : (c.kind == 1) = false := by simpa using k1
  have t3 : (c.kind == 3) = false := by simp; omega
  have t4 : (c.kind == 4) = false := by simp; omega
  clear k0 k1 k34
  go_wp2_with fail
  go_end0
  rw [← HF.out]
  exact ⟨rfl, HL5.out, HB5.out⟩
set_option maxRecDepth 100000 in
set_option maxHeartbeats 1000000 in
theorem enl_zero (fx : List Bool) : LabCalls fx 0 := by
 intro b g of gr l P v w hof ht hg hL hv hP
 obtain ⟨ao, cap, rfl⟩ : ∃ ao cap, v = .slice ao 0 cap := by
  rcases Joins.ownsRow_forms hv.1 with ⟨rfl, _⟩ | ⟨g, cap, rfl⟩ <;> exact ⟨_, _, rfl⟩
 clear hv
 go_enter Tryz.func53, Tryz.ntmps53
 go_wp2_with fail
 go_loopw [10] (fun x w' => x = .int .i64 0 ∧ w' = w) (fun _ _ => 0)
 case atStart => exact ⟨rfl, rfl⟩
 case round =>
  obtain ⟨rfl, rfl⟩ := hrel
  go_wp2_with fail
  go_end0
  exact ⟨rfl, hL, But.refl _ _⟩
theorem enlL_cons {α : Type} (rec : LS → List α → Nat → LS) (fx : List Bool) (st : LS) (q : Core × List α × List α) (r : List (Core × List α × List α)) (g : Nat) : enlL rec fx st (q :: r) g = enlL rec fx (enlR rec fx st q g) r g := rfl
set_option maxRecDepth 100000 in
set_option maxHeartbeats 1000000 in
theorem enl_step (fx : List Bool) (n : Nat) (ih : LabCalls fx n) (b g : Nat) (of : List Nat) (gr : Bool) (l : List (Core × List (RT n) × List (RT n))) (P : Nat → Prop) (v : Value) (w : World) (hof : OfOk of) (hl : l.length ≤ 1000) (hok : ∀ q ∈ l, CoreOk q.1 ∧ TreeOk n q.2.1 ∧ TreeOk n q.2.2) (hg : g < 16) (hL : LabAt w b of fx gr)
  (hv : RowsC (fun cs q => RuleC (RulesV n w P) w P cs q) w P v l) (hP : ∀ k, P k → k ≠ b) :
  Calls Tryz.prog 53 #[.pointer (some ⟨b, 0, none⟩), v, .int .i64 g] w fun e w' => e = .returned (.tuple #[]) ∧ LabAt w' b (enlL (enlF fx n) fx (of, gr) l g).1 fx (enlL (enlF fx n) fx (of, gr) l g).2 ∧ But b w w' := by
 obtain ⟨ao, gb, cap, rfl, hcells⟩ := rules_at hv
 have hgP : ∀ i, i < l.length → P gb := by
  intro i hi
  obtain ⟨xs, o1, o2, _⟩ := hv
  exact o2 gb (by rw [(hcells i hi).1]; rfl)
 have HOK : Hid _ := hok
 have HC : Hid _ := hcells
 have IH : Hid (LabCalls fx n) := ih
 have HP : Hid (∀ k, P k → k ≠ b) := hP
 have HGP : Hid (∀ i, i < l.length → P gb) := hgP
 have hlb := hL.lt
 generalize hR : enlL (enlF fx n) fx (of, gr) l g = R at *
 have HR : Hid (enlL (enlF fx n) fx (of, gr) l g = R) := hR
 have HL0 : Hid (LabAt w b of fx gr) := hL
 have HOF : Hid (OfOk of) := hof
 clear hcells hok ih hR hv hP hgP hL hof
 go_enter Tryz.func53, Tryz.ntmps53
 go_wp2_with fail
 go_loopw [10] (fun x w' => ∃ (k : Nat) (st : LS), x = .int .i64 k ∧ k ≤ l.length ∧ Hid (OfOk st.1) ∧ Hid (LabAt w' b st.1 fx st.2) ∧ Hid (But b w w') ∧ Hid (enlL (enlF fx n) fx st (l.drop k) g = R)) (fun x _ => l.length - (intOf x).toNat)
 case atStart => exact ⟨0, (of, gr), rfl, by omega, HOF, HL0, But.refl _ _, HR⟩
 case round =>
  obtain ⟨k, st, rfl, hk, HO, HL, HW, HS⟩ := hrel
  by_cases hlt : k < l.length
  ·have tk : decide ((k : Int) < (l.length : Int)) = true := by simp; omega
   obtain ⟨e0, hgb, cs, hru, hcs⟩ := HC.out k hlt
   obtain ⟨okc, ok1, ok2⟩ := HOK.out l[k] (List.getElem_mem hlt)
   have hgne := HP.out gb (HGP.out k hlt)
   have hstep := HS.out
   rw [List.drop_eq_getElem_cons hlt, enlL_cons] at hstep
   generalize hq : l[k] = q at *
   obtain ⟨ve, v1, v2, hcs0, hpe, hr1, hr2⟩ := hru
   subst hcs0
   obtain ⟨ae, ne, ce, hve⟩ : ∃ aa nn cc, ve = .slice aa nn cc := by
    rcases Joins.ownsRow_forms hpe.1 with ⟨rfl, _⟩ | ⟨g, cap, rfl⟩ <;> exact ⟨_, _, _, rfl⟩
   obtain ⟨a1, n1, c1, hv1⟩ := rulesV_form hr1
   obtain ⟨a2, n2, c2, hv2⟩ := rulesV_form hr2
   have hEV : ve = .slice ae ne ce ∧ v1 = .slice a1 n1 c1 ∧ v2 = .slice a2 n2 c2 := ⟨hve, hv1, hv2⟩
   clear hve hv1 hv2
   obtain ⟨rfl, rfl, rfl⟩ := hEV
   have hgbk : wr.heap[gb]? = w.heap[gb]? := HW.out.block gb hgb (fun e => hgne (Option.some.inj e))
   have d : ∀ j, j < 8 → wr.cell? ⟨gb, k * 8 + j, none⟩ = (coreV q.1 ++ [.slice ae ne ce, .slice a1 n1 c1, .slice a2 n2 c2])[j]? := fun j hj => (World.cell?_of_block (a := ⟨gb, k * 8 + j, none⟩) hgbk).trans (hcs j hj)
   have d0 : wr.cell? ⟨gb, k * 8, none⟩ = some (.int .i64 q.1.kind) := d 0 (by omega)
   have d1 : wr.cell? ⟨gb, k * 8 + 1, none⟩ = some (.int .i64 q.1.place) := d 1 (by omega)
   have d2 : wr.cell? ⟨gb, k * 8 + 2, none⟩ = some (.int .i64 q.1.name) := d 2 (by omega)
   have d3 : wr.cell? ⟨gb, k * 8 + 3, none⟩ = some (.int .i64 q.1.label) := d 3 (by omega)
   have d4 : wr.cell? ⟨gb, k * 8 + 4, none⟩ = some (.int .i64 q.1.count) := d 4 (by omega)
   have d5 : wr.cell? ⟨gb, k * 8 + 5, none⟩ = some (.slice ae ne ce) := d 5 (by omega)
   have d6 : wr.cell? ⟨gb, k * 8 + 6, none⟩ = some (.slice a1 n1 c1) := d 6 (by omega)
   have d7 : wr.cell? ⟨gb, k * 8 + 7, none⟩ = some (.slice a2 n2 c2) := d 7 (by omega)
   subst e0
   have OKC : Hid (CoreOk q.1) := okc
   have OK1 : Hid (TreeOk n q.2.1) := ok1
   have OK2 : Hid (TreeOk n q.2.2) := ok2
   have HPE : Hid (PartsV wr P (.slice ae ne ce) q.1.parts) := partsV_but hpe HW.out HP.out
   have HR1 : Hid (RulesV n wr P (.slice a1 n1 c1) q.2.1) := rulesV_but hr1 HW.out HP.out
   have HR2 : Hid (RulesV n wr P (.slice a2 n2 c2) q.2.2) := rulesV_but hr2 HW.out HP.out
   have hgr := enlR_grow (enlF_grow fx n) (fx := fx) HO.out okc ok1 ok2 hg
   generalize hT : enlR (enlF fx n) fx st q g = st' at *
   have HT : Hid (enlR (enlF fx n) fx st q g = st') := hT
   have HO' : Hid (OfOk st'.1) := hgr.ok
   have HS' : Hid _ := hstep
   have hbb : ¬ b = wr.heap.size := by have := HL.out.lt; omega
   clear hstep okc ok1 ok2 hpe hr1 hr2 hcs d hq hT hgr hgbk
   go_wp2_with fail
   have hBA : Below wr.heap.size wr (wr.alloc (.cells #[.int .i64 q.1.kind, .int .i64 q.1.place, .int .i64 q.1.name, .int .i64 q.1.label, .int .i64 q.1.count, .slice ae ne ce, .slice a1 n1 c1, .slice a2 n2 c2] 104)) := (Below.refl _ _).alloc (Nat.le_refl _) _
   refine (enlargeFor_step fx n IH.out b g st.1 st.2 q P _ _ _ _ HO.out OKC.out OK1.out OK2.out hg (HL.out.below hBA) (partsV_below HPE.out hBA) (rulesV_below HR1.out hBA) (rulesV_below HR2.out hBA) HP.out).mono ?_
   rw [HT.out]
   rintro e w1 ⟨rfl, hl1, hb1⟩
   have HW1 : Hid (But b w w1) := (HW.out.alloc _).trans hb1
   have HL1 : Hid _ := hl1
   clear hl1 hb1 hBA HW d0 d1 d2 d3 d4 d5 d6 d7
   go_wp2_with fail
   go_roundw
   case rel => exact ⟨k + 1, st', by go_num, by omega, HO', HL1, HW1, HS'⟩
   case measure => simp [intOf]; omega
  ·have tk : decide ((k : Int) < (l.length : Int)) = false := by simp; omega
   have hfin : st = R := by
    have := HS.out
    rw [List.drop_of_length_le (by omega)] at this
    exact this
   have HF : Hid _ := hfin
   clear hfin
   go_wp2_with fail
   go_end0
   rw [← HF.out]
   exact ⟨rfl, HL.out, HW.out⟩
theorem enl_succ (fx : List Bool) (n : Nat) (ih : LabCalls fx n) : LabCalls fx (n + 1) :=
 fun b g of gr l P v w hof ht hg hL hv hP => enl_step fx n ih b g of gr l P v w hof ht.1 ht.2 hg hL hv hP
theorem enlargeAll_any (fx : List Bool) : ∀ n, LabCalls fx n
 | 0 => enl_zero fx
 | n + 1 => enl_succ fx n (enlargeAll_any fx n)
end Go.Proofs.YtdgmoiflahoihabGreatDoor
