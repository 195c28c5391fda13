import Derived.Test.YtdgmoiflahoihaaGreatDoorBBw
import Derived.Deep.MidRow

namespace Go.Proofs.YtdgmoiflahoihaaGreatDoor
open Go.RowKit
set_option linter.unusedSimpArgs false
set_option linter.unusedVariables false
structure LabAt (w : World) (b : Nat) (of : List Nat) (fx : List Bool) (gr : Bool) : Prop where
 lab : ∀ k, k < 26 → w.cell? ⟨b, k, none⟩ = some (.int .i64 (of.getD k 0 : Nat))
 fix : ∀ k, k < 26 → w.cell? ⟨b, 26 + k, none⟩ = some (.bool (fx.getD k false))
 gro : w.cell? ⟨b, 52, none⟩ = some (.bool gr)
 fz : ∀ o, w.frozen? ⟨b, o, none⟩ = false
theorem LabAt.lt {w : World} {b : Nat} {of : List Nat} {fx : List Bool} {gr : Bool} (h : LabAt w b of fx gr) : b < w.heap.size := World.block_lt_of_cell? w _ h.gro
theorem LabAt.range {w : World} {b : Nat} {of : List Nat} {fx : List Bool} {gr : Bool} (h : LabAt w b of fx gr) (hof : of.length = 26) : w.rangeAt b 0 (of.map natV) := by
 intro j v hv
 rw [List.getElem?_map] at hv
 cases e : of[j]? with
 | none => rw [e] at hv; cases hv
 | some x =>
  rw [e] at hv
  cases hv
  have hj : j < 26 := by have := (List.getElem?_eq_some_iff.mp e).1; omega
  have := h.lab j hj
  rw [List.getD_eq_getElem?_getD, e] at this
  simpa [natV] using this
theorem LabAt.block {w w' : World} {b : Nat} {of : List Nat} {fx : List Bool} {gr : Bool} (h : LabAt w b of fx gr) (hb : w'.heap[b]? = w.heap[b]?) : LabAt w' b of fx gr :=
 ⟨fun k hk => (World.cell?_of_block (a := ⟨b, k, none⟩) hb).trans (h.lab k hk), fun k hk => (World.cell?_of_block (a := ⟨b, 26 + k, none⟩) hb).trans (h.fix k hk), (World.cell?_of_block (a := ⟨b, 52, none⟩) hb).trans h.gro, fun o => (World.frozen?_of_block (a := ⟨b, o, none⟩) hb).trans (h.fz o)⟩
theorem LabAt.below {w w' : World} {b : Nat} {of : List Nat} {fx : List Bool} {gr : Bool} (h : LabAt w b of fx gr) (hb : Below w.heap.size w w') : LabAt w' b of fx gr := h.block (hb.block b h.lt)
theorem LabAt.setGro {w : World} {b : Nat} {of : List Nat} {fx : List Bool} {gr : Bool} (h : LabAt w b of fx gr) (u : Bool) : LabAt (w.setCell ⟨b, 52, none⟩ (.bool u)) b of fx u := by
 refine ⟨fun k hk => ?_, fun k hk => ?_, ?_, fun o => ?_⟩
 ·rw [World.cell?_setCell_other _ _ _ _ (by intro e; have e2 := congrArg Addr.off e; simp only at e2; omega)]; exact h.lab k hk
 ·rw [World.cell?_setCell_other _ _ _ _ (by intro e; have e2 := congrArg Addr.off e; simp only at e2; omega)]; exact h.fix k hk
 ·exact World.cell?_setCell_same _ _ _ h.gro
 ·simpa using h.fz o
theorem LabAt.setLab {w : World} {b : Nat} {of : List Nat} {fx : List Bool} {gr : Bool} (h : LabAt w b of fx gr) (hof : of.length = 26) (k m : Nat) (hk : k < 26) : LabAt (w.setCell ⟨b, k, none⟩ (.int .i64 (m : Nat))) b (of.set k m) fx gr := by
 refine ⟨fun j hj => ?_, fun j hj => ?_, ?_, fun o => ?_⟩
 ·by_cases e : j = k
  ·subst e
   rw [World.cell?_setCell_same _ _ _ (h.lab j hj)]
   simp [List.getD_eq_getElem?_getD, hof, hj]
  ·rw [World.cell?_setCell_other _ _ _ _ (by intro e; have e2 := congrArg Addr.off e; simp only at e2; omega), h.lab j hj]
   simp [List.getD_eq_getElem?_getD, List.getElem?_set, Ne.symm e]
 ·rw [World.cell?_setCell_other _ _ _ _ (by intro e; have e2 := congrArg Addr.off e; simp only at e2; omega)]; exact h.fix j hj
 ·rw [World.cell?_setCell_other _ _ _ _ (by intro e; have e2 := congrArg Addr.off e; simp only at e2; omega)]; exact h.gro
 ·simpa using h.fz o
theorem LabAt.setFix {w : World} {b : Nat} {of : List Nat} {fx : List Bool} {gr : Bool} (h : LabAt w b of fx gr) (hfx : fx.length = 26) (k : Nat) (u : Bool) (hk : k < 26) : LabAt (w.setCell ⟨b, 26 + k, none⟩ (.bool u)) b of (fx.set k u) gr := by
 refine ⟨fun j hj => ?_, fun j hj => ?_, ?_, fun o => ?_⟩
 ·rw [World.cell?_setCell_other _ _ _ _ (by intro e; have e2 := congrArg Addr.off e; simp only at e2; omega)]; exact h.lab j hj
 ·by_cases e : j = k
  ·subst e
   rw [World.cell?_setCell_same _ _ _ (h.fix j hj)]
   simp [List.getD_eq_getElem?_getD, hfx, hj]
  ·rw [World.cell?_setCell_other _ _ _ _ (by intro e; have e2 := congrArg Addr.off e; simp only at e2; omega), h.fix j hj]
   simp [List.getD_eq_getElem?_getD, List.getElem?_set, Ne.symm e]
 ·rw [World.cell?_setCell_other _ _ _ _ (by intro e; have e2 := congrArg Addr.off e; simp only at e2; omega)]; exact h.gro
 ·simpa using h.fz o
set_option maxRecDepth 100000 in
set_option maxHeartbeats 1000000 in
theorem enlarge_any (b k lab : Nat) (of : List Nat) (fx : List Bool) (gr : Bool) (w : World) (hof : OfOk of) (hk : k < 26) (hl : lab < 16) (h : LabAt w b of fx gr) :
  Calls Tryz.prog 165 #[.pointer (some ⟨b, 0, none⟩), .int .i64 k, .int .i64 lab] w fun e w' => e = .returned (.tuple #[]) ∧ LabAt w' b (enlP fx (of, gr) k lab).1 fx (enlP fx (of, gr) k lab).2 ∧ But b w w' := by
 have hq := h.lab k hk
 have hx := h.fix k hk
 have hg := h.gro
 have hf := h.fz
 have hqm := getD_lt hof.lt k
 have HH : Hid (LabAt w b of fx gr) := h
 have HOF : Hid (OfOk of) := hof
 unfold enlP
 simp only
 generalize of.getD k 0 = q at *
 generalize fx.getD k false = fk at *
 clear h hof
 cases fk
 ·simp only [Bool.false_or]
  cases t1 : goesB lab q
  ·simp only [Bool.false_eq_true, if_false]
   have ho := i64_or_nat q lab (by omega) (by omega)
   go_enter Tryz.func165, Tryz.ntmps165
   go_wp2_with fail
   refine (flows_is lab q false _ hl hqm t1).mono ?_
   rintro e w1 ⟨rfl, rfl⟩
   go_wp2_with fail
   go_region
   all_goals go_wp2_with fail
   all_goals go_end0
   all_goals exact ⟨rfl, LabAt.block ((HH.out.setLab HOF.out.len k (q ||| lab) hk).setGro true) rfl, (((But.refl _ _).set k _).set 52 _).drewN 1⟩
  ·simp only [if_true]
   go_enter Tryz.func165, Tryz.ntmps165
   go_wp2_with fail
   refine (flows_is lab q true _ hl hqm t1).mono ?_
   rintro e w1 ⟨rfl, rfl⟩
   go_wp2_with fail
   refine bodyPost_ret (results_none rfl _ _ _) rfl ?_
   exact ⟨rfl, HH.out, But.refl _ _⟩
 ·simp only [Bool.true_or, if_true]
  go_enter Tryz.func165, Tryz.ntmps165
  go_wp2_with fail
  refine bodyPost_ret (results_none rfl _ _ _) rfl ?_
  exact ⟨rfl, HH.out, But.refl _ _⟩
end Go.Proofs.YtdgmoiflahoihaaGreatDoor
namespace Go.Proofs.YtdgmoiflahoihaaGreatDoor
open Go.RowKit
set_option linter.unusedSimpArgs false
set_option linter.unusedVariables false
def LabCalls (fx : List Bool) (n : Nat) : Prop := ∀ (b g : Nat) (of : List Nat) (gr : Bool) (l : List (RT n)) (P : Nat → Prop) (v : Value) (w : World), OfOk of → TreeOk n l → g < 16 → LabAt w b of fx gr → RulesV n w P v l → (∀ k, P k → k ≠ b) →
 Calls Tryz.prog 86 #[.pointer (some ⟨b, 0, none⟩), v, .int .i64 g] w fun e w' => e = .returned (.tuple #[]) ∧ LabAt w' b (enlF fx n (of, gr) l g).1 fx (enlF fx n (of, gr) l g).2 ∧ But b w w'
set_option maxRecDepth 100000 in
set_option maxHeartbeats 1000000 in
theorem enlargeFor_step (fx : List Bool) (n : Nat) (ih : LabCalls fx n) (b g : Nat) (of : List Nat) (gr : Bool) (q : Core × List (RT n) × List (RT n)) (P : Nat → Prop) (ve v1 v2 : Value) (w : World) (hof : OfOk of) (hc : CoreOk q.1) (h1 : TreeOk n q.2.1) (h2 : TreeOk n q.2.2) (hg : g < 16) (hL : LabAt w b of fx gr)
  (hve : PartsV w P ve q.1.parts) (hr1 : RulesV n w P v1 q.2.1) (hr2 : RulesV n w P v2 q.2.2) (hP : ∀ k, P k → k ≠ b) :
  Calls Tryz.prog 121 #[.pointer (some ⟨b, 0, none⟩), .agg #[.int .i64 q.1.kind, .int .i64 q.1.place, .int .i64 q.1.name, .int .i64 q.1.label, .int .i64 q.1.count, ve, v1, v2], .int .i64 g] w fun e w' => e = .returned (.tuple #[]) ∧ LabAt w' b (enlR (enlF fx n) fx (of, gr) q g).1 fx (enlR (enlF fx n) fx (of, gr) q g).2 ∧ But b w w' := by
 obtain ⟨c, l1, l2⟩ := q
 simp only at *
 have hlw := hL.lt
 have hlc := hc.label
 have hLl := labL_lt hof.lt c.parts 0 (by omega)
 obtain ⟨ae, ne, ce, hvee⟩ : ∃ aa nn cc, ve = .slice aa nn cc := by
  rcases Joins.ownsRow_forms hve.1 with ⟨rfl, _⟩ | ⟨g, cap, rfl⟩ <;> exact ⟨_, _, _, rfl⟩
 subst hvee
 generalize hW : w.alloc (.cells #[.int .i64 c.kind, .int .i64 c.place, .int .i64 c.name, .int .i64 c.label, .int .i64 c.count, .slice ae ne ce, v1, v2] 149) = W
 have HWe : Hid _ := hW
 have hLW : LabAt W b of fx gr := by rw [← hW]; exact hL.below ((Below.refl _ _).alloc (Nat.le_refl _) _)
 have hBW : But b w W := by rw [← hW]; exact (But.refl _ _).alloc _
 have hBB : Below w.heap.size w W := by rw [← hW]; exact (Below.refl _ _).alloc (Nat.le_refl _) _
 have hWs : W.heap.size = w.heap.size + 1 := by rw [← hW]; simp
 have q0 : W.cell? ⟨w.heap.size, 0, none⟩ = some (.int .i64 c.kind) := by rw [← hW]; simp [go_sem]
 have q2 : W.cell? ⟨w.heap.size, 2, none⟩ = some (.int .i64 c.name) := by rw [← hW]; simp [go_sem]
 have q3 : W.cell? ⟨w.heap.size, 3, none⟩ = some (.int .i64 c.label) := by rw [← hW]; simp [go_sem]
 have q5 : W.cell? ⟨w.heap.size, 5, none⟩ = some (.slice ae ne ce) := by rw [← hW]; simp [go_sem]
 have q6 : W.cell? ⟨w.heap.size, 6, none⟩ = some v1 := by rw [← hW]; simp [go_sem]
 have q7 : W.cell? ⟨w.heap.size, 7, none⟩ = some v2 := by rw [← hW]; simp [go_sem]
 have HVE : Hid (PartsV W P (.slice ae ne ce) c.parts) := partsV_below hve hBB
 have HR1 : Hid (RulesV n W P v1 l1) := rulesV_below hr1 hBB
 have HR2 : Hid (RulesV n W P v2 l2) := rulesV_below hr2 hBB
 have HLW : Hid (LabAt W b of fx gr) := hLW
 have HBW : Hid (But b w W) := hBW
 have hra := hLW.range hof.len
 have HOF : Hid (OfOk of) := hof
 have HC : Hid (CoreOk c) := hc
 have H1 : Hid (TreeOk n l1) := h1
 have H2 : Hid (TreeOk n l2) := h2
 have HP : Hid (∀ k, P k → k ≠ b) := hP
 have IH : Hid (LabCalls fx n) := ih
 have hu35 := Tryz.underlying69
 have hi35 : (Tryz.prog.info? 69).map (fun i => i.size) = some (of.map natV).length := by rw [infoArr, List.length_map, HOF.out.len]
 have hltW : w.heap.size < W.heap.size := by omega
 have hblW : b < W.heap.size := by omega
 generalize hres : enlR (enlF fx n) fx (of, gr) (c, l1, l2) g = res
 have HRES : Hid _ := hres
 generalize hLe : labL of c.parts 0 = L at *
 have HLe : Hid (labL of c.parts 0 = L) := hLe
 clear hve hr1 hr2 hL hof hc h1 h2 hP ih hLW hBW hBB hW hres hLe
 go_enter Tryz.func121, Tryz.ntmps121
 go_upto_region 3 with fail
 rw [HWe.out]
 go_region_held3 (fun w' => w'.rangeAt b 0 (of.map natV) ∧ w'.cell? ⟨w.heap.size, 5, none⟩ = some (.slice ae ne ce)) (first | go_keep | exact ⟨range_keep hb5 hra, (hb5.cell (p := ⟨w.heap.size, 5, none⟩) hltW).trans q5⟩) ((go_at_call 88; refine (labelOf_any of c.parts P _ _ HOF.out.len HOF.out.lt HC.out.few HC.out.parts (partsV_below HVE.out (Below.refl _ _).drew)).mono ?_; rintro x1 w5 ⟨rfl, hb5⟩; rw [HLe.out]))
 have hb6 : Below W.heap.size W w5 := ⟨hb5.os, hb5.tape, hb5.output, hb5.size, hb5.block⟩
 have HL5 : Hid (LabAt w5 b of fx gr) := HLW.out.below hb6
 have HB5 : Hid (But b w w5) := HBW.out.trans ⟨hb6.os, hb6.tape, hb6.output, hb6.size, fun k hk _ => hb6.block k hk⟩
 have HR15 : Hid (RulesV n w5 P v1 l1) := rulesV_below HR1.out hb6
 have HR25 : Hid (RulesV n w5 P v2 l2) := rulesV_below HR2.out hb6
 rw [← hb6.cell (p := ⟨w.heap.size, 0, none⟩) hltW] at q0
 rw [← hb6.cell (p := ⟨w.heap.size, 2, none⟩) hltW] at q2
 rw [← hb6.cell (p := ⟨w.heap.size, 3, none⟩) hltW] at q3
 rw [← hb6.cell (p := ⟨w.heap.size, 6, none⟩) hltW] at q6
 rw [← hb6.cell (p := ⟨w.heap.size, 7, none⟩) hltW] at q7
 have hlt5 : w.heap.size < w5.heap.size := by have := hb6.size; omega
 have hgl := i64_or_nat g L (by omega) (by omega)
 have hglb := i64_or_nat g c.label (by omega) (by omega)
 have hgl16 := or_lt16 hg hLl
 have hglb16 := or_lt16 hg hlc
 rw [hgl]
 clear hb5 hb6 HLW HBW HR1 HR2 hra q5 hu35 hi35 hgl
 generalize hAe : g ||| L = A at *
 have HAe : Hid (g ||| labL of c.parts 0 = A) := by show _ = _; rw [HLe.out]; exact hAe
 clear hAe
 by_cases k0 : c.kind = 0
 ·obtain ⟨n0, n1⟩ := HC.out.name (.inl k0)
  have HF : Hid (enlP fx (of, gr) c.name.toNat A = res) := by show _ = _; rw [← HRES.out]; unfold enlR; simp only; rw [if_pos k0, HAe.out]
  rw [k0] at q0
  generalize hnm : c.name = nm at *
  obtain ⟨nn, rfl⟩ : ∃ nn : Nat, nm = nn := ⟨nm.toNat, by omega⟩
  simp only [Int.toNat_natCast] at HF
  clear hnm k0
  go_wp2_with fail
  refine (enlarge_any b nn A of fx gr _ HOF.out (by omega) hgl16 HL5.out).mono ?_
  rw [HF.out]
  rintro e w6 ⟨rfl, hl6, hb6⟩
  go_wp2_with fail
  go_end0
  exact ⟨rfl, hl6, HB5.out.trans hb6⟩
 by_cases k1 : c.kind = 1
 ·obtain ⟨n0, n1⟩ := HC.out.name (.inr k1)
  have HF : Hid (enlP fx (of, gr) c.name.toNat (g ||| c.label) = res) := by show _ = _; rw [← HRES.out]; unfold enlR; simp only; rw [if_neg k0, if_pos k1]
  rw [k1] at q0
  generalize hnm : c.name = nm at *
  obtain ⟨nn, rfl⟩ : ∃ nn : Nat, nm = nn := ⟨nm.toNat, by omega⟩
  simp only [Int.toNat_natCast] at HF
  clear hnm k0 k1
  generalize g ||| c.label = Y at *
  go_wp2_with fail
  refine (enlarge_any b nn Y of fx gr _ HOF.out (by omega) hglb16 HL5.out).mono ?_
  rw [HF.out]
  rintro e w6 ⟨rfl, hl6, hb6⟩
  go_wp2_with fail
  go_end0
  exact ⟨rfl, hl6, HB5.out.trans hb6⟩
 by_cases k34 : c.kind = 3 ∨ c.kind = 4
 ·have HF : Hid (enlF fx n (enlF fx n (of, gr) l1 A) l2 A = res) := by show _ = _; rw [← HRES.out]; unfold enlR; simp only; rw [if_neg k0, if_neg k1, if_pos k34, HAe.out]
  have hg1 := enlF_grow fx n (of, gr) l1 A HOF.out H1.out hgl16
  generalize hs1 : enlF fx n (of, gr) l1 A = s1 at *
  have HS1 : Hid (enlF fx n (of, gr) l1 A = s1) := hs1
  have HG1 : Hid (OfOk s1.1) := hg1.ok
  have t0 : (c.kind == 0) = false := by simpa using k0
  have t1 : (c.kind == 1) = false := by simpa using k1
  obtain ⟨a1, n1, c1, hv1⟩ := rulesV_form HR15.out
  obtain ⟨a2, n2, c2, hv2⟩ := rulesV_form HR25.out
  subst hv1 hv2
  clear hs1 hg1 k0 k1
  rcases k34 with k3 | k3
  all_goals
   rw [k3] at q0
   clear k3 t0 t1
   go_wp2_with fail
   refine (IH.out b A of gr l1 P _ _ HOF.out H1.out hgl16 HL5.out HR15.out HP.out).mono ?_
   rw [HS1.out]
   rintro e w6 ⟨rfl, hl6, hb6⟩
   have q77 : w6.cell? ⟨w.heap.size, 7, none⟩ = some (.slice a2 n2 c2) := hb6.cell q7 (fun e => by have := Option.some.inj e; simp only at this; omega)
   have HR26 : Hid (RulesV n w6 P (.slice a2 n2 c2) l2) := rulesV_but HR25.out hb6 HP.out
   clear q0 q2 q3 q6 q7
   go_wp2_with fail
   refine (IH.out b A s1.1 s1.2 l2 P _ _ HG1.out H2.out hgl16 hl6 HR26.out HP.out).mono ?_
   rw [HF.out]
   rintro e w7 ⟨rfl, hl7, hb7⟩
   go_wp2_with fail
   go_end0
   exact ⟨rfl, hl7, (HB5.out.trans hb6).trans hb7⟩
 ·have HF : Hid ((of, gr) = res) := by show _ = _; rw [← HRES.out]; unfold enlR; simp only; rw [if_neg k0, if_neg k1, if_neg k34]
  have t0 : (c.kind == 0) = false := by simpa using k0
  have t1 : (c.kind == 1) = false := by simpa using k1
  have t3 : (c.kind == 3) = false := by simp; omega
  have t4 : (c.kind == 4) = false := by simp; omega
  clear k0 k1 k34
  go_wp2_with fail
  go_end0
  rw [← HF.out]
  exact ⟨rfl, HL5.out, HB5.out⟩
set_option maxRecDepth 100000 in
set_option maxHeartbeats 1000000 in
theorem enl_zero (fx : List Bool) : LabCalls fx 0 := by
 intro b g of gr l P v w hof ht hg hL hv hP
 obtain ⟨ao, cap, rfl⟩ : ∃ ao cap, v = .slice ao 0 cap := by
  rcases Joins.ownsRow_forms hv.1 with ⟨rfl, _⟩ | ⟨g, cap, rfl⟩ <;> exact ⟨_, _, rfl⟩
 clear hv
 go_enter Tryz.func86, Tryz.ntmps86
 go_wp2_with fail
 go_loopw [10] (fun x w' => x = .int .i64 0 ∧ w' = w) (fun _ _ => 0)
 case atStart => exact ⟨rfl, rfl⟩
 case round =>
  obtain ⟨rfl, rfl⟩ := hrel
  go_wp2_with fail
  go_end0
  exact ⟨rfl, hL, But.refl _ _⟩
theorem enlL_cons {α : Type} (rec : LS → List α → Nat → LS) (fx : List Bool) (st : LS) (q : Core × List α × List α) (r : List (Core × List α × List α)) (g : Nat) : enlL rec fx st (q :: r) g = enlL rec fx (enlR rec fx st q g) r g := rfl
set_option maxRecDepth 100000 in
set_option maxHeartbeats 1000000 in
theorem enl_step (fx : List Bool) (n : Nat) (ih : LabCalls fx n) (b g : Nat) (of : List Nat) (gr : Bool) (l : List (Core × List (RT n) × List (RT n))) (P : Nat → Prop) (v : Value) (w : World) (hof : OfOk of) (hl : l.length ≤ 1000) (hok : ∀ q ∈ l, CoreOk q.1 ∧ TreeOk n q.2.1 ∧ TreeOk n q.2.2) (hg : g < 16) (hL : LabAt w b of fx gr)
  (hv : RowsC (fun cs q => RuleC (RulesV n w P) w P cs q) w P v l) (hP : ∀ k, P k → k ≠ b) :
  Calls Tryz.prog 86 #[.pointer (some ⟨b, 0, none⟩), v, .int .i64 g] w fun e w' => e = .returned (.tuple #[]) ∧ LabAt w' b (enlL (enlF fx n) fx (of, gr) l g).1 fx (enlL (enlF fx n) fx (of, gr) l g).2 ∧ But b w w' := by
 obtain ⟨ao, gb, cap, rfl, hcells⟩ := rules_at hv
 have hgP : ∀ i, i < l.length → P gb := by
  intro i hi
  obtain ⟨xs, o1, o2, _⟩ := hv
  exact o2 gb (by rw [(hcells i hi).1]; rfl)
 have HOK : Hid _ := hok
 have HC : Hid _ := hcells
 have IH : Hid (LabCalls fx n) := ih
 have HP : Hid (∀ k, P k → k ≠ b) := hP
 have HGP : Hid (∀ i, i < l.length → P gb) := hgP
 have hlb := hL.lt
 generalize hR : enlL (enlF fx n) fx (of, gr) l g = R at *
 have HR : Hid (enlL (enlF fx n) fx (of, gr) l g = R) := hR
 have HL0 : Hid (LabAt w b of fx gr) := hL
 have HOF : Hid (OfOk of) := hof
 clear hcells hok ih hR hv hP hgP hL hof
 go_enter Tryz.func86, Tryz.ntmps86
 go_wp2_with fail
 go_loopw [10] (fun x w' => ∃ (k : Nat) (st : LS), x = .int .i64 k ∧ k ≤ l.length ∧ Hid (OfOk st.1) ∧ Hid (LabAt w' b st.1 fx st.2) ∧ Hid (But b w w') ∧ Hid (enlL (enlF fx n) fx st (l.drop k) g = R)) (fun x _ => l.length - (intOf x).toNat)
 case atStart => exact ⟨0, (of, gr), rfl, by omega, HOF, HL0, But.refl _ _, HR⟩
 case round =>
  obtain ⟨k, st, rfl, hk, HO, HL, HW, HS⟩ := hrel
  by_cases hlt : k < l.length
  ·have tk : decide ((k : Int) < (l.length : Int)) = true := by simp; omega
   obtain ⟨e0, hgb, cs, hru, hcs⟩ := HC.out k hlt
   obtain ⟨okc, ok1, ok2⟩ := HOK.out l[k] (List.getElem_mem hlt)
   have hgne := HP.out gb (HGP.out k hlt)
   have hstep := HS.out
   rw [List.drop_eq_getElem_cons hlt, enlL_cons] at hstep
   generalize hq : l[k] = q at *
   obtain ⟨ve, v1, v2, hcs0, hpe, hr1, hr2⟩ := hru
   subst hcs0
   obtain ⟨ae, ne, ce, hve⟩ : ∃ aa nn cc, ve = .slice aa nn cc := by
    rcases Joins.ownsRow_forms hpe.1 with ⟨rfl, _⟩ | ⟨g, cap, rfl⟩ <;> exact ⟨_, _, _, rfl⟩
   obtain ⟨a1, n1, c1, hv1⟩ := rulesV_form hr1
   obtain ⟨a2, n2, c2, hv2⟩ := rulesV_form hr2
   have hEV : ve = .slice ae ne ce ∧ v1 = .slice a1 n1 c1 ∧ v2 = .slice a2 n2 c2 := ⟨hve, hv1, hv2⟩
   clear hve hv1 hv2
   obtain ⟨rfl, rfl, rfl⟩ := hEV
   have hgbk : wr.heap[gb]? = w.heap[gb]? := HW.out.block gb hgb (fun e => hgne (Option.some.inj e))
   have d : ∀ j, j < 8 → wr.cell? ⟨gb, k * 8 + j, none⟩ = (coreV q.1 ++ [.slice ae ne ce, .slice a1 n1 c1, .slice a2 n2 c2])[j]? := fun j hj => (World.cell?_of_block (a := ⟨gb, k * 8 + j, none⟩) hgbk).trans (hcs j hj)
   have d0 : wr.cell? ⟨gb, k * 8, none⟩ = some (.int .i64 q.1.kind) := d 0 (by omega)
   have d1 : wr.cell? ⟨gb, k * 8 + 1, none⟩ = some (.int .i64 q.1.place) := d 1 (by omega)
   have d2 : wr.cell? ⟨gb, k * 8 + 2, none⟩ = some (.int .i64 q.1.name) := d 2 (by omega)
   have d3 : wr.cell? ⟨gb, k * 8 + 3, none⟩ = some (.int .i64 q.1.label) := d 3 (by omega)
   have d4 : wr.cell? ⟨gb, k * 8 + 4, none⟩ = some (.int .i64 q.1.count) := d 4 (by omega)
   have d5 : wr.cell? ⟨gb, k * 8 + 5, none⟩ = some (.slice ae ne ce) := d 5 (by omega)
   have d6 : wr.cell? ⟨gb, k * 8 + 6, none⟩ = some (.slice a1 n1 c1) := d 6 (by omega)
   have d7 : wr.cell? ⟨gb, k * 8 + 7, none⟩ = some (.slice a2 n2 c2) := d 7 (by omega)
   subst e0
   have OKC : Hid (CoreOk q.1) := okc
   have OK1 : Hid (TreeOk n q.2.1) := ok1
   have OK2 : Hid (TreeOk n q.2.2) := ok2
   have HPE : Hid (PartsV wr P (.slice ae ne ce) q.1.parts) := partsV_but hpe HW.out HP.out
   have HR1 : Hid (RulesV n wr P (.slice a1 n1 c1) q.2.1) := rulesV_but hr1 HW.out HP.out
   have HR2 : Hid (RulesV n wr P (.slice a2 n2 c2) q.2.2) := rulesV_but hr2 HW.out HP.out
   have hgr := enlR_grow (enlF_grow fx n) (fx := fx) HO.out okc ok1 ok2 hg
   generalize hT : enlR (enlF fx n) fx st q g = st' at *
   have HT : Hid (enlR (enlF fx n) fx st q g = st') := hT
   have HO' : Hid (OfOk st'.1) := hgr.ok
   have HS' : Hid _ := hstep
   have hbb : ¬ b = wr.heap.size := by have := HL.out.lt; omega
   clear hstep okc ok1 ok2 hpe hr1 hr2 hcs d hq hT hgr hgbk
   go_wp2_with fail
   have hBA : Below wr.heap.size wr (wr.alloc (.cells #[.int .i64 q.1.kind, .int .i64 q.1.place, .int .i64 q.1.name, .int .i64 q.1.label, .int .i64 q.1.count, .slice ae ne ce, .slice a1 n1 c1, .slice a2 n2 c2] 149)) := (Below.refl _ _).alloc (Nat.le_refl _) _
   refine (enlargeFor_step fx n IH.out b g st.1 st.2 q P _ _ _ _ HO.out OKC.out OK1.out OK2.out hg (HL.out.below hBA) (partsV_below HPE.out hBA) (rulesV_below HR1.out hBA) (rulesV_below HR2.out hBA) HP.out).mono ?_
   rw [HT.out]
   rintro e w1 ⟨rfl, hl1, hb1⟩
   have HW1 : Hid (But b w w1) := (HW.out.alloc _).trans hb1
   have HL1 : Hid _ := hl1
   clear hl1 hb1 hBA HW d0 d1 d2 d3 d4 d5 d6 d7
   go_wp2_with fail
   go_roundw
   case rel => exact ⟨k + 1, st', by go_num, by omega, HO', HL1, HW1, HS'⟩
   case measure => simp [intOf]; omega
  ·have tk : decide ((k : Int) < (l.length : Int)) = false := by simp; omega
   have hfin : st = R := by
    have := HS.out
    rw [List.drop_of_length_le (by omega)] at this
    exact this
   have HF : Hid _ := hfin
   clear hfin
   go_wp2_with fail
   go_end0
   rw [← HF.out]
   exact ⟨rfl, HL.out, HW.out⟩
theorem enl_succ (fx : List Bool) (n : Nat) (ih : LabCalls fx n) : LabCalls fx (n + 1) :=
 fun b g of gr l P v w hof ht hg hL hv hP => enl_step fx n ih b g of gr l P v w hof ht.1 ht.2 hg hL hv hP
theorem enlargeAll_any (fx : List Bool) : ∀ n, LabCalls fx n
 | 0 => enl_zero fx
 | n + 1 => enl_succ fx n (enlargeAll_any fx n)
end Go.Proofs.YtdgmoiflahoihaaGreatDoor
namespace Go.Proofs.YtdgmoiflahoihaaGreatDoor
open Go.RowKit
set_option linter.unusedSimpArgs false
set_option linter.unusedVariables false
def HdOk (h : Hd) : Prop := 0 ≤ h.name ∧ h.name < 26 ∧ h.label < 16 ∧ h.place ≤ 400
def list53 : List Value := List.replicate 26 (Value.int .i64 0) ++ (List.replicate 26 (Value.bool false) ++ [Value.bool false])
theorem lab53 : (#[.int .i64 0, .int .i64 0, .int .i64 0, .int .i64 0, .int .i64 0, .int .i64 0, .int .i64 0, .int .i64 0, .int .i64 0, .int .i64 0, .int .i64 0, .int .i64 0, .int .i64 0, .int .i64 0, .int .i64 0, .int .i64 0, .int .i64 0, .int .i64 0, .int .i64 0, .int .i64 0, .int .i64 0, .int .i64 0, .int .i64 0, .int .i64 0, .int .i64 0, .int .i64 0, .bool false, .bool false, .bool false, .bool false, .bool false, .bool false, .bool false, .bool false, .bool false, .bool false, .bool false, .bool false, .bool false, .bool false, .bool false, .bool false, .bool false, .bool false, .bool false, .bool false, .bool false, .bool false, .bool false, .bool false, .bool false, .bool false, .bool false] : Array Value) = list53.toArray := by rfl
theorem rep_getD {α : Type} (v d : α) (n k : Nat) (h : k < n) : (List.replicate n v).getD k d = v := by
 rw [List.getD_eq_getElem?_getD, List.getElem?_replicate, if_pos h]
 rfl
theorem rep_get (v : Value) (k n : Nat) (h : k < n) (r : List Value) : (List.replicate n v ++ r)[k]? = some v := by
 rw [List.getElem?_append_left (by simpa using h)]
 simp [h]
theorem labs_start (w : World) (vt vr : Value) : LabAt (((w.alloc (.cells #[vt, vr] 68)).alloc (.cells #[.int .i64 0, .int .i64 0, .int .i64 0, .int .i64 0, .int .i64 0, .int .i64 0, .int .i64 0, .int .i64 0, .int .i64 0, .int .i64 0, .int .i64 0, .int .i64 0, .int .i64 0, .int .i64 0, .int .i64 0, .int .i64 0, .int .i64 0, .int .i64 0, .int .i64 0, .int .i64 0, .int .i64 0, .int .i64 0, .int .i64 0, .int .i64 0, .int .i64 0, .int .i64 0] 69)).alloc (.cells #[.int .i64 0, .int .i64 0, .int .i64 0, .int .i64 0, .int .i64 0, .int .i64 0, .int .i64 0, .int .i64 0, .int .i64 0, .int .i64 0, .int .i64 0, .int .i64 0, .int .i64 0, .int .i64 0, .int .i64 0, .int .i64 0, .int .i64 0, .int .i64 0, .int .i64 0, .int .i64 0, .int .i64 0, .int .i64 0, .int .i64 0, .int .i64 0, .int .i64 0, .int .i64 0, .bool false, .bool false, .bool false, .bool false, .bool false, .bool false, .bool false, .bool false, .bool false, .bool false, .bool false, .bool false, .bool false, .bool false, .bool false, .bool false, .bool false, .bool false, .bool false, .bool false, .bool false, .bool false, .bool false, .bool false, .bool false, .bool false, .bool false] 153)) (w.heap.size + 1 + 1) lab0.1 lab0.2 false ∧ BoxAt (((w.alloc (.cells #[vt, vr] 68)).alloc (.cells #[.int .i64 0, .int .i64 0, .int .i64 0, .int .i64 0, .int .i64 0, .int .i64 0, .int .i64 0, .int .i64 0, .int .i64 0, .int .i64 0, .int .i64 0, .int .i64 0, .int .i64 0, .int .i64 0, .int .i64 0, .int .i64 0, .int .i64 0, .int .i64 0, .int .i64 0, .int .i64 0, .int .i64 0, .int .i64 0, .int .i64 0, .int .i64 0, .int .i64 0, .int .i64 0] 69)).alloc (.cells #[.int .i64 0, .int .i64 0, .int .i64 0, .int .i64 0, .int .i64 0, .int .i64 0, .int .i64 0, .int .i64 0, .int .i64 0, .int .i64 0, .int .i64 0, .int .i64 0, .int .i64 0, .int .i64 0, .int .i64 0, .int .i64 0, .int .i64 0, .int .i64 0, .int .i64 0, .int .i64 0, .int .i64 0, .int .i64 0, .int .i64 0, .int .i64 0, .int .i64 0, .int .i64 0, .bool false, .bool false, .bool false, .bool false, .bool false, .bool false, .bool false, .bool false, .bool false, .bool false, .bool false, .bool false, .bool false, .bool false, .bool false, .bool false, .bool false, .bool false, .bool false, .bool false, .bool false, .bool false, .bool false, .bool false, .bool false, .bool false, .bool false] 153)) (w.heap.size + 1) zero26 ∧ (((w.alloc (.cells #[vt, vr] 68)).alloc (.cells #[.int .i64 0, .int .i64 0, .int .i64 0, .int .i64 0, .int .i64 0, .int .i64 0, .int .i64 0, .int .i64 0, .int .i64 0, .int .i64 0, .int .i64 0, .int .i64 0, .int .i64 0, .int .i64 0, .int .i64 0, .int .i64 0, .int .i64 0, .int .i64 0, .int .i64 0, .int .i64 0, .int .i64 0, .int .i64 0, .int .i64 0, .int .i64 0, .int .i64 0, .int .i64 0] 69)).alloc (.cells #[.int .i64 0, .int .i64 0, .int .i64 0, .int .i64 0, .int .i64 0, .int .i64 0, .int .i64 0, .int .i64 0, .int .i64 0, .int .i64 0, .int .i64 0, .int .i64 0, .int .i64 0, .int .i64 0, .int .i64 0, .int .i64 0, .int .i64 0, .int .i64 0, .int .i64 0, .int .i64 0, .int .i64 0, .int .i64 0, .int .i64 0, .int .i64 0, .int .i64 0, .int .i64 0, .bool false, .bool false, .bool false, .bool false, .bool false, .bool false, .bool false, .bool false, .bool false, .bool false, .bool false, .bool false, .bool false, .bool false, .bool false, .bool false, .bool false, .bool false, .bool false, .bool false, .bool false, .bool false, .bool false, .bool false, .bool false, .bool false, .bool false] 153)).cell? ⟨w.heap.size, 0, none⟩ = some vt ∧ (((w.alloc (.cells #[vt, vr] 68)).alloc (.cells #[.int .i64 0, .int .i64 0, .int .i64 0, .int .i64 0, .int .i64 0, .int .i64 0, .int .i64 0, .int .i64 0, .int .i64 0, .int .i64 0, .int .i64 0, .int .i64 0, .int .i64 0, .int .i64 0, .int .i64 0, .int .i64 0, .int .i64 0, .int .i64 0, .int .i64 0, .int .i64 0, .int .i64 0, .int .i64 0, .int .i64 0, .int .i64 0, .int .i64 0, .int .i64 0] 69)).alloc (.cells #[.int .i64 0, .int .i64 0, .int .i64 0, .int .i64 0, .int .i64 0, .int .i64 0, .int .i64 0, .int .i64 0, .int .i64 0, .int .i64 0, .int .i64 0, .int .i64 0, .int .i64 0, .int .i64 0, .int .i64 0, .int .i64 0, .int .i64 0, .int .i64 0, .int .i64 0, .int .i64 0, .int .i64 0, .int .i64 0, .int .i64 0, .int .i64 0, .int .i64 0, .int .i64 0, .bool false, .bool false, .bool false, .bool false, .bool false, .bool false, .bool false, .bool false, .bool false, .bool false, .bool false, .bool false, .bool false, .bool false, .bool false, .bool false, .bool false, .bool false, .bool false, .bool false, .bool false, .bool false, .bool false, .bool false, .bool false, .bool false, .bool false] 153)).cell? ⟨w.heap.size, 1, none⟩ = some vr ∧ Below w.heap.size w (((w.alloc (.cells #[vt, vr] 68)).alloc (.cells #[.int .i64 0, .int .i64 0, .int .i64 0, .int .i64 0, .int .i64 0, .int .i64 0, .int .i64 0, .int .i64 0, .int .i64 0, .int .i64 0, .int .i64 0, .int .i64 0, .int .i64 0, .int .i64 0, .int .i64 0, .int .i64 0, .int .i64 0, .int .i64 0, .int .i64 0, .int .i64 0, .int .i64 0, .int .i64 0, .int .i64 0, .int .i64 0, .int .i64 0, .int .i64 0] 69)).alloc (.cells #[.int .i64 0, .int .i64 0, .int .i64 0, .int .i64 0, .int .i64 0, .int .i64 0, .int .i64 0, .int .i64 0, .int .i64 0, .int .i64 0, .int .i64 0, .int .i64 0, .int .i64 0, .int .i64 0, .int .i64 0, .int .i64 0, .int .i64 0, .int .i64 0, .int .i64 0, .int .i64 0, .int .i64 0, .int .i64 0, .int .i64 0, .int .i64 0, .int .i64 0, .int .i64 0, .bool false, .bool false, .bool false, .bool false, .bool false, .bool false, .bool false, .bool false, .bool false, .bool false, .bool false, .bool false, .bool false, .bool false, .bool false, .bool false, .bool false, .bool false, .bool false, .bool false, .bool false, .bool false, .bool false, .bool false, .bool false, .bool false, .bool false] 153)) ∧ (((w.alloc (.cells #[vt, vr] 68)).alloc (.cells #[.int .i64 0, .int .i64 0, .int .i64 0, .int .i64 0, .int .i64 0, .int .i64 0, .int .i64 0, .int .i64 0, .int .i64 0, .int .i64 0, .int .i64 0, .int .i64 0, .int .i64 0, .int .i64 0, .int .i64 0, .int .i64 0, .int .i64 0, .int .i64 0, .int .i64 0, .int .i64 0, .int .i64 0, .int .i64 0, .int .i64 0, .int .i64 0, .int .i64 0, .int .i64 0] 69)).alloc (.cells #[.int .i64 0, .int .i64 0, .int .i64 0, .int .i64 0, .int .i64 0, .int .i64 0, .int .i64 0, .int .i64 0, .int .i64 0, .int .i64 0, .int .i64 0, .int .i64 0, .int .i64 0, .int .i64 0, .int .i64 0, .int .i64 0, .int .i64 0, .int .i64 0, .int .i64 0, .int .i64 0, .int .i64 0, .int .i64 0, .int .i64 0, .int .i64 0, .int .i64 0, .int .i64 0, .bool false, .bool false, .bool false, .bool false, .bool false, .bool false, .bool false, .bool false, .bool false, .bool false, .bool false, .bool false, .bool false, .bool false, .bool false, .bool false, .bool false, .bool false, .bool false, .bool false, .bool false, .bool false, .bool false, .bool false, .bool false, .bool false, .bool false] 153)).heap.size = w.heap.size + 1 + 1 + 1 := by
 have hb : ∀ (W : World) (t : TypeId) (o : Nat), (W.alloc (.cells #[.int .i64 0, .int .i64 0, .int .i64 0, .int .i64 0, .int .i64 0, .int .i64 0, .int .i64 0, .int .i64 0, .int .i64 0, .int .i64 0, .int .i64 0, .int .i64 0, .int .i64 0, .int .i64 0, .int .i64 0, .int .i64 0, .int .i64 0, .int .i64 0, .int .i64 0, .int .i64 0, .int .i64 0, .int .i64 0, .int .i64 0, .int .i64 0, .int .i64 0, .int .i64 0, .bool false, .bool false, .bool false, .bool false, .bool false, .bool false, .bool false, .bool false, .bool false, .bool false, .bool false, .bool false, .bool false, .bool false, .bool false, .bool false, .bool false, .bool false, .bool false, .bool false, .bool false, .bool false, .bool false, .bool false, .bool false, .bool false, .bool false] t)).cell? ⟨W.heap.size, o, none⟩ = list53[o]? := by
  intro W t o
  rw [lab53, cell_of_row _ _ _ _ _ _ (heap_alloc_new W _)]
  simp
 have hs2 : ((w.alloc (.cells #[vt, vr] 68)).alloc (.cells #[.int .i64 0, .int .i64 0, .int .i64 0, .int .i64 0, .int .i64 0, .int .i64 0, .int .i64 0, .int .i64 0, .int .i64 0, .int .i64 0, .int .i64 0, .int .i64 0, .int .i64 0, .int .i64 0, .int .i64 0, .int .i64 0, .int .i64 0, .int .i64 0, .int .i64 0, .int .i64 0, .int .i64 0, .int .i64 0, .int .i64 0, .int .i64 0, .int .i64 0, .int .i64 0] 69)).heap.size = w.heap.size + 1 + 1 := by simp
 have hb2 := hb ((w.alloc (.cells #[vt, vr] 68)).alloc (.cells #[.int .i64 0, .int .i64 0, .int .i64 0, .int .i64 0, .int .i64 0, .int .i64 0, .int .i64 0, .int .i64 0, .int .i64 0, .int .i64 0, .int .i64 0, .int .i64 0, .int .i64 0, .int .i64 0, .int .i64 0, .int .i64 0, .int .i64 0, .int .i64 0, .int .i64 0, .int .i64 0, .int .i64 0, .int .i64 0, .int .i64 0, .int .i64 0, .int .i64 0, .int .i64 0] 69)) 153
 rw [hs2] at hb2
 refine ⟨⟨fun k hk => ?_, fun k hk => ?_, ?_, fun o => ?_⟩, ?_, ?_, ?_, ?_, ?_⟩
 ·rw [hb2 k]
  unfold list53
  rw [rep_get _ _ _ hk]
  have e : lab0.1.getD k 0 = 0 := rep_getD 0 0 26 k hk
  rw [e]
  rfl
 ·rw [hb2 (26 + k)]
  unfold list53
  rw [List.getElem?_append_right (by simp), List.length_replicate, show 26 + k - 26 = k by omega, rep_get _ _ _ hk]
  have e : lab0.2.getD k false = false := rep_getD false false 26 k hk
  rw [e]
 ·rw [hb2 52]; rfl
 ·have := heap_alloc_new ((w.alloc (.cells #[vt, vr] 68)).alloc (.cells #[.int .i64 0, .int .i64 0, .int .i64 0, .int .i64 0, .int .i64 0, .int .i64 0, .int .i64 0, .int .i64 0, .int .i64 0, .int .i64 0, .int .i64 0, .int .i64 0, .int .i64 0, .int .i64 0, .int .i64 0, .int .i64 0, .int .i64 0, .int .i64 0, .int .i64 0, .int .i64 0, .int .i64 0, .int .i64 0, .int .i64 0, .int .i64 0, .int .i64 0, .int .i64 0] 69)) (.cells #[.int .i64 0, .int .i64 0, .int .i64 0, .int .i64 0, .int .i64 0, .int .i64 0, .int .i64 0, .int .i64 0, .int .i64 0, .int .i64 0, .int .i64 0, .int .i64 0, .int .i64 0, .int .i64 0, .int .i64 0, .int .i64 0, .int .i64 0, .int .i64 0, .int .i64 0, .int .i64 0, .int .i64 0, .int .i64 0, .int .i64 0, .int .i64 0, .int .i64 0, .int .i64 0, .bool false, .bool false, .bool false, .bool false, .bool false, .bool false, .bool false, .bool false, .bool false, .bool false, .bool false, .bool false, .bool false, .bool false, .bool false, .bool false, .bool false, .bool false, .bool false, .bool false, .bool false, .bool false, .bool false, .bool false, .bool false, .bool false, .bool false] 153)
  rw [hs2] at this
  simp only [World.frozen?, this]
  simp
 ·have := box_zero (w.alloc (.cells #[vt, vr] 68))
  have h2 := this.keep (K := w.heap.size + 1 + 1) (w' := ((w.alloc (.cells #[vt, vr] 68)).alloc (.cells #[.int .i64 0, .int .i64 0, .int .i64 0, .int .i64 0, .int .i64 0, .int .i64 0, .int .i64 0, .int .i64 0, .int .i64 0, .int .i64 0, .int .i64 0, .int .i64 0, .int .i64 0, .int .i64 0, .int .i64 0, .int .i64 0, .int .i64 0, .int .i64 0, .int .i64 0, .int .i64 0, .int .i64 0, .int .i64 0, .int .i64 0, .int .i64 0, .int .i64 0, .int .i64 0] 69)).alloc (.cells #[.int .i64 0, .int .i64 0, .int .i64 0, .int .i64 0, .int .i64 0, .int .i64 0, .int .i64 0, .int .i64 0, .int .i64 0, .int .i64 0, .int .i64 0, .int .i64 0, .int .i64 0, .int .i64 0, .int .i64 0, .int .i64 0, .int .i64 0, .int .i64 0, .int .i64 0, .int .i64 0, .int .i64 0, .int .i64 0, .int .i64 0, .int .i64 0, .int .i64 0, .int .i64 0, .bool false, .bool false, .bool false, .bool false, .bool false, .bool false, .bool false, .bool false, .bool false, .bool false, .bool false, .bool false, .bool false, .bool false, .bool false, .bool false, .bool false, .bool false, .bool false, .bool false, .bool false, .bool false, .bool false, .bool false, .bool false, .bool false, .bool false] 153)) ((Below.refl _ _).alloc (by simp) _) (by simp <;> omega)
  simpa using h2
 ·rw [World.cell?_alloc_past _ _ _ (by simp <;> omega), World.cell?_alloc_past _ _ _ (by simp)]; simp [go_sem]
 ·rw [World.cell?_alloc_past _ _ _ (by simp <;> omega), World.cell?_alloc_past _ _ _ (by simp)]; simp [go_sem]
 ·exact (((Below.refl _ _).alloc (Nat.le_refl _) _).alloc (by simp) _).alloc (by simp; omega) _
 ·simp
theorem headLab_cons (h : Hd) (r : List Hd) (x : List Nat × List Bool) : headLab (h :: r) x = headLab r (x.1.set h.name.toNat h.label, x.2.set h.name.toNat true) := rfl
def labSum (w : World) (b : Nat) : Nat := ((List.range 26).map fun k => (intOf ((w.cell? ⟨b, k, none⟩).getD undef)).toNat).sum
theorem LabAt.sum {w : World} {b : Nat} {of : List Nat} {fx : List Bool} {gr : Bool} (h : LabAt w b of fx gr) (hof : of.length = 26) : labSum w b = of.sum := by
 unfold labSum
 have e : (List.range 26).map (fun k => (intOf ((w.cell? ⟨b, k, none⟩).getD undef)).toNat) = of := by
  apply List.ext_getElem
  ·simp [hof]
  ·intro i h1 h2
   simp at h1
   rw [List.getElem_map, List.getElem_range, h.lab i h1]
   simp [intOf, List.getD_eq_getElem?_getD, List.getElem?_eq_getElem h2]
 rw [e]
def groAt (w : World) (b : Nat) : Nat := match w.cell? ⟨b, 52, none⟩ with | some (.bool true) => 1 | _ => 0
theorem LabAt.gro1 {w : World} {b : Nat} {of : List Nat} {fx : List Bool} {gr : Bool} (h : LabAt w b of fx gr) : groAt w b = if gr then 1 else 0 := by
 unfold groAt
 rw [h.gro]
 cases gr <;> rfl
set_option maxRecDepth 100000 in
set_option maxHeartbeats 2000000 in
theorem labelsOf_any (hs : List Hd) (l : List (RT 9)) (P : Nat → Prop) (vh vr : Value) (w : World) (hh : hs.length ≤ 1000) (hok : ∀ h ∈ hs, HdOk h) (ht : TreeOk 9 l) (hvh : HeadsV w P vh hs) (hvr : RulesV 9 w P vr l) :
  Calls Tryz.prog 52 #[.agg #[vh, vr]] w fun e w' => e = .returned (.agg (arrV (labelsP hs l))) ∧ Below w.heap.size w w' := by
 obtain ⟨ao, gb, cap, rfl, hcap, hcells⟩ := heads_form hvh
 obtain ⟨ar, nr, cr, hvr2⟩ := rulesV_form hvr
 subst hvr2
 unfold labelsP
 generalize hH : headLab hs lab0 = HH
 have HHH : Hid (headLab hs lab0 = HH) := hH
 generalize hRR : labLoop HH.2 l 400 HH.1 = R
 have HRR : Hid (labLoop HH.2 l 400 HH.1 = R) := hRR
 clear hH hRR
 go_enter Tryz.func52, Tryz.ntmps52
 go_wp2_with fail
 have hst := labs_start w (.slice ao hs.length cap) (.slice ar nr cr)
 generalize ((w.alloc (.cells #[.slice ao hs.length cap, .slice ar nr cr] 68)).alloc (.cells #[.int .i64 0, .int .i64 0, .int .i64 0, .int .i64 0, .int .i64 0, .int .i64 0, .int .i64 0, .int .i64 0, .int .i64 0, .int .i64 0, .int .i64 0, .int .i64 0, .int .i64 0, .int .i64 0, .int .i64 0, .int .i64 0, .int .i64 0, .int .i64 0, .int .i64 0, .int .i64 0, .int .i64 0, .int .i64 0, .int .i64 0, .int .i64 0, .int .i64 0, .int .i64 0] 69)).alloc (.cells #[.int .i64 0, .int .i64 0, .int .i64 0, .int .i64 0, .int .i64 0, .int .i64 0, .int .i64 0, .int .i64 0, .int .i64 0, .int .i64 0, .int .i64 0, .int .i64 0, .int .i64 0, .int .i64 0, .int .i64 0, .int .i64 0, .int .i64 0, .int .i64 0, .int .i64 0, .int .i64 0, .int .i64 0, .int .i64 0, .int .i64 0, .int .i64 0, .int .i64 0, .int .i64 0, .bool false, .bool false, .bool false, .bool false, .bool false, .bool false, .bool false, .bool false, .bool false, .bool false, .bool false, .bool false, .bool false, .bool false, .bool false, .bool false, .bool false, .bool false, .bool false, .bool false, .bool false, .bool false, .bool false, .bool false, .bool false, .bool false, .bool false] 153) = W0 at *
 obtain ⟨hl0, hx0, ht0, ht1, hb0, hs0⟩ := hst
 have HC : Hid (HeadCells w ao gb hs) := hcells
 have HOK : Hid (∀ h ∈ hs, HdOk h) := hok
 have HT : Hid (TreeOk 9 l) := ht
 have HV : Hid (RulesV 9 w P (.slice ar nr cr) l) := hvr
 have HB0 : Hid (Below w.heap.size w W0) := hb0
 have HX0 : Hid (BoxAt W0 (w.heap.size + 1) zero26) := hx0
 clear hcells hok ht hvr hb0 hx0 hvh
 go_loopw [9] (fun x w' => ∃ (k : Nat) (of : List Nat) (fx : List Bool), x = .int .i64 k ∧ k ≤ hs.length ∧ Hid (LabAt w' (w.heap.size + 1 + 1) of fx false) ∧ Hid (OfOk of) ∧ fx.length = 26 ∧ Hid (Below (w.heap.size + 1 + 1) W0 w') ∧ Hid (headLab (hs.drop k) (of, fx) = HH)) (fun x _ => hs.length - (intOf x).toNat)
 case atStart => exact ⟨0, lab0.1, lab0.2, rfl, by omega, hl0, ⟨rfl, by decide⟩, rfl, Below.refl _ _, HHH⟩
 case round =>
  obtain ⟨k, of, fx, rfl, hk, HL, HO, hfx, HW, HS⟩ := hrel
  have hBl := HL.out.lt
  by_cases hlt : k < hs.length
  ·have tk : decide ((k : Int) < (hs.length : Int)) = true := by simp; omega
   obtain ⟨e0, hg, c0, c1, c2, c3⟩ := HC.out k hlt
   have hok := HOK.out hs[k] (List.getElem_mem hlt)
   have hcw : ∀ o, wr.cell? ⟨gb, o, none⟩ = w.cell? ⟨gb, o, none⟩ := fun o => (HW.out.cell (p := ⟨gb, o, none⟩) (by simp only; omega)).trans (HB0.out.cell (p := ⟨gb, o, none⟩) hg)
   rw [← hcw] at c0 c1 c2 c3
   have hstep := HS.out
   rw [List.drop_eq_getElem_cons hlt, headLab_cons] at hstep
   subst e0
   generalize hs[k] = hd at *
   obtain ⟨hn0, hn1, hlab, hpl⟩ := hok
   obtain ⟨nn, hnn⟩ : ∃ nn : Nat, hd.name = nn := ⟨hd.name.toNat, by omega⟩
   rw [hnn] at c2 hstep hn0 hn1
   simp only [Int.toNat_natCast] at hstep
   have HS2 : Hid _ := hstep
   have hnn26 : nn < 26 := by omega
   have q1 := HL.out.lab nn hnn26
   have q2 := HL.out.fix nn hnn26
   have qf := HL.out.fz
   have hne : ¬ w.heap.size + 1 + 1 = wr.heap.size := by omega
   clear hstep hcw
   go_wp2_with fail
   go_roundw
   case rel =>
    exact ⟨k + 1, of.set nn hd.label, fx.set nn true, by go_num, by omega, ((HL.out.setLab HO.out.len nn hd.label hnn26).setFix hfx nn true hnn26).below ((Below.refl _ _).alloc (Nat.le_refl _) _), HO.out.set nn _ hlab, by simpa using hfx, ((HW.out.setCell (Nat.le_refl _) _).setCell (Nat.le_refl _) _).alloc (by simp; omega) _, HS2⟩
   case measure => simp [intOf]; omega
  ·have tk : decide ((k : Int) < (hs.length : Int)) = false := by simp; omega
   have hfin : (of, fx) = HH := by
    have := HS.out
    rw [List.drop_of_length_le (by omega)] at this
    exact this
   have HF : Hid _ := hfin
   have qg := HL.out.gro
   have qf := HL.out.fz
   clear hfin
   go_wp2_with fail
   have hFe := HF.out
   subst hFe
   have hsum := HO.out.sum_le
   go_loopw [] (fun w' => ∃ (j : Nat) (of' : List Nat) (gr : Bool), Hid (LabAt w' (w.heap.size + 1 + 1) of' fx gr) ∧ Hid (OfOk of') ∧ Hid (Below (w.heap.size + 1 + 1) W0 w') ∧ Hid ((gr = true → 390 - of'.sum < j ∧ labLoop fx l j of' = R) ∧ (gr = false → of' = R))) (fun w' => 2 * (391 - labSum w' (w.heap.size + 1 + 1)) + groAt w' (w.heap.size + 1 + 1))
   case atStart => exact ⟨400, of, true, HL.out.setGro true, HO, HW.out.setCell (Nat.le_refl _) _, ⟨fun _ => ⟨by omega, HRR.out⟩, fun e => (by cases e)⟩⟩
   case round =>
    clear HL HW HF hBl qg qf HO
    obtain ⟨j, of', gr, HL, HO, HW, HQ⟩ := hrel
    have qg := HL.out.gro
    have qf := HL.out.fz
    have hBl := HL.out.lt
    have hlen := HO.out.len
    have hs1 := HL.out.sum hlen
    have hg1 := HL.out.gro1
    have ht0r : wr.cell? ⟨w.heap.size, 1, none⟩ = some (.slice ar nr cr) := (HW.out.cell (p := ⟨w.heap.size, 1, none⟩) (by simp only; omega)).trans ht1
    cases gr
    ·have hfin : of' = R := HQ.out.2 rfl
     subst hfin
     have hra := HL.out.range hlen
     have hxr : BoxAt wr (w.heap.size + 1) zero26 := HX0.out.keep HW.out (by omega)
     have hsz : (arrV of').size = 26 := by simp [arrV, hlen]
     have hsz0 : (arrV zero26).size = 26 := by rfl
     have HXR : Hid _ := hxr
     have HRA : Hid (wr.rangeAt (w.heap.size + 1 + 1) 0 (of'.map natV)) := hra
     clear hra hxr
     go_upto_region 12 with fail
     go_wp2_with (first | (refine wpList_load_mid rfl 69 (.tmp 31) rfl (w.heap.size + 1 + 1) 0 rfl (of'.map natV) _ HRA.out Tryz.underlying69 rfl (by rw [infoArr, List.length_map, hlen]) ?_) | (refine wpList_store_row rfl 69 (.tmp 2) (.tmp 32) rfl (w.heap.size + 1) (arrV of') rfl rfl 69 (arrV zero26) HXR.out (by rw [infoArr, hsz]) (by rw [hsz, hsz0]) (arr_one of') ?_))
     have hfin := BoxAt.setRow of' HXR.out
     exact bodyPost_ret (v := .agg (arrV of')) (results_cell_row rfl _ _ (w.heap.size + 1) 69 (arrV of') (0, 0) _ rfl hfin Tryz.underlying69 rfl (by rw [infoArr, hsz])) rfl ⟨rfl, below_setRow (HB0.out.trans (HW.out.mono (by omega))) (by omega)⟩
    ·obtain ⟨hj, hloop⟩ := HQ.out.1 rfl
     obtain ⟨j', rfl⟩ : ∃ j', j = j' + 1 := ⟨j - 1, by omega⟩
     have hgrow := enlF_grow fx 9 (of', false) l 0 HO.out HT.out (by omega)
     have hloop2 : (if (enlF fx 9 (of', false) l 0).2 then labLoop fx l j' (enlF fx 9 (of', false) l 0).1 else (enlF fx 9 (of', false) l 0).1) = R := hloop
     clear hloop
     generalize hst' : enlF fx 9 (of', false) l 0 = st at *
     have HST : Hid (enlF fx 9 (of', false) l 0 = st) := hst'
     have HG : Hid _ := hgrow
     have HLP : Hid _ := hloop2
     clear hst' hgrow hloop2
     go_wp2_with fail
     have hLg := HL.out.setGro false
     have hBg : Below w.heap.size w (wr.setCell ⟨w.heap.size + 1 + 1, 52, none⟩ (.bool false)) := HB0.out.trans ((HW.out.setCell (Nat.le_refl _) _).mono (by omega))
     refine (enlargeAll_any fx 9 (w.heap.size + 1 + 1) 0 of' false l (fun k => k < w.heap.size) _ _ HO.out HT.out (by omega) hLg (rulesV_frame (fun k hk hl => ⟨hl, hBg.block k hl⟩) 9 _ _ HV.out) (fun k hk => by omega)).mono ?_
     rw [HST.out]
     rintro e w2 ⟨rfl, hl2, hb2⟩
     have HL2 : Hid _ := hl2
     have HW2 : Hid (Below (w.heap.size + 1 + 1) W0 w2) := (HW.out.setCell (Nat.le_refl _) _).trans ⟨hb2.os, hb2.tape, hb2.output, hb2.size, fun k hk => hb2.block k (by simp; omega) (fun e => by have := Option.some.inj e; omega)⟩
     clear hl2 hb2 hLg hBg
     go_wp2_with fail
     go_roundw
     case rel =>
      refine ⟨j', st.1, st.2, HL2, HG.out.ok, HW2, ⟨fun e => ?_, fun e => ?_⟩⟩
      ·have h1 := HLP.out
       rw [if_pos e] at h1
       refine ⟨?_, h1⟩
       have h2 := HG.out.more e
       have h3 := HO.out.sum_le
       have h9 := HG.out.ok.sum_le
       simp at h2
       omega
      ·have h1 := HLP.out
       rw [if_neg (by rw [e]; decide)] at h1
       exact h1
     case measure =>
      have h5 := LabAt.sum HL2.out HG.out.ok.len
      have h6 := LabAt.gro1 HL2.out
      have h7 := HG.out.ok.sum_le
      have h8 := HG.out.le
      simp only at h8
      rw [hs1, hg1, h5, h6]
      cases e : st.2
      ·simp; omega
      ·have h2 := HG.out.more e
       simp at h2
       simp; omega
end Go.Proofs.YtdgmoiflahoihaaGreatDoor
namespace Go.Proofs.YtdgmoiflahoihaaGreatDoor
open Go.RowKit
set_option linter.unusedSimpArgs false
set_option linter.unusedVariables false
def e30 (e p : Int) : List Value := [Value.int .i64 e, Value.int .i64 p, Value.slice none 0 0, Value.slice none 0 0] ++ zero26.map natV
theorem infoRules : (Tryz.prog.info? 71).map (·.size) = some 30 := by kernel_rfl
theorem e30_one (e p : Int) : (e30 e p).toArray.all (·.oneCell') = true := by
 apply all_oneCell_toArray
 intro v hv
 unfold e30 at hv
 rcases List.mem_append.mp hv with h | h
 ·simp at h
  rcases h with rfl | rfl | rfl <;> rfl
 ·obtain ⟨n, _, rfl⟩ := List.mem_map.mp h
  rfl
theorem e30_size (e p : Int) : (e30 e p).toArray.size = 30 := by rfl
theorem rules_new (w : World) : (w.alloc (.cells #[.int .i64 0, .int .i64 0, .slice none 0 0, .slice none 0 0, .int .i64 0, .int .i64 0, .int .i64 0, .int .i64 0, .int .i64 0, .int .i64 0, .int .i64 0, .int .i64 0, .int .i64 0, .int .i64 0, .int .i64 0, .int .i64 0, .int .i64 0, .int .i64 0, .int .i64 0, .int .i64 0, .int .i64 0, .int .i64 0, .int .i64 0, .int .i64 0, .int .i64 0, .int .i64 0, .int .i64 0, .int .i64 0, .int .i64 0, .int .i64 0] 71)).heap[w.heap.size]? = some (.cells (e30 0 0).toArray 71 (0, 0)) := heap_alloc_new w _
set_option maxRecDepth 100000 in
set_option maxHeartbeats 2000000 in
theorem text_long (s : ByteArray) (w : World) (hs : s.size ≤ maxLen) (h : 400 < s.size) :
  Calls Tryz.prog 26 #[.string s] w fun e w' => e = .returned (.agg (e30 1 0).toArray) ∧ Below w.heap.size w w' := by
 unfold maxLen at hs
 have hz := rules_new w
 have hb := (Below.refl w.heap.size w).alloc (Nat.le_refl _) (.cells #[.int .i64 0, .int .i64 0, .slice none 0 0, .slice none 0 0, .int .i64 0, .int .i64 0, .int .i64 0, .int .i64 0, .int .i64 0, .int .i64 0, .int .i64 0, .int .i64 0, .int .i64 0, .int .i64 0, .int .i64 0, .int .i64 0, .int .i64 0, .int .i64 0, .int .i64 0, .int .i64 0, .int .i64 0, .int .i64 0, .int .i64 0, .int .i64 0, .int .i64 0, .int .i64 0, .int .i64 0, .int .i64 0, .int .i64 0, .int .i64 0] 71)
 go_enter Tryz.func26, Tryz.ntmps26
 go_upto_region 2 with fail
 generalize (w.alloc (.cells #[.int .i64 0, .int .i64 0, .slice none 0 0, .slice none 0 0, .int .i64 0, .int .i64 0, .int .i64 0, .int .i64 0, .int .i64 0, .int .i64 0, .int .i64 0, .int .i64 0, .int .i64 0, .int .i64 0, .int .i64 0, .int .i64 0, .int .i64 0, .int .i64 0, .int .i64 0, .int .i64 0, .int .i64 0, .int .i64 0, .int .i64 0, .int .i64 0, .int .i64 0, .int .i64 0, .int .i64 0, .int .i64 0, .int .i64 0, .int .i64 0] 71)) = W at *
 have HZ : Hid _ := hz
 clear hz
 go_wp2_with (refine wpList_store_row rfl 71 (.tmp 2) (.tmp 10) rfl w.heap.size (e30 1 0).toArray rfl rfl 71 (e30 0 0).toArray HZ.out (by rw [infoRules, e30_size]) rfl (e30_one 1 0) ?_)
 have hfin : (W.setRow w.heap.size (e30 1 0).toArray).heap[w.heap.size]? = some (.cells (e30 1 0).toArray 71 (0, 0)) := setRow_heap W _ _ _ _ _ HZ.out
 exact bodyPost_ret (v := .agg (e30 1 0).toArray) (results_cell_row rfl _ _ w.heap.size 71 (e30 1 0).toArray (0, 0) _ rfl hfin Tryz.underlying71 rfl (by rw [infoRules, e30_size])) rfl ⟨rfl, below_setRow hb (Nat.le_refl _)⟩
structure ParseOk (t : List UInt8) : Prop where
 heads : ∀ h ∈ (parseH t).2, HdOk h
 few : (parseH t).2.length ≤ 1000
 tree : TreeOk 9 (parseR t).2
 work : workS 9 (parseR t).2 < 1099511627776
set_option maxRecDepth 100000 in
set_option maxHeartbeats 2000000 in
theorem text_misform (s : ByteArray) (w : World) (hs : s.size ≤ 400) (hbad : (parseR s.data.toList).1.bad = true) :
  Calls Tryz.prog 26 #[.string s] w fun e w' => e = .returned (.agg (e30 2 (parseR s.data.toList).1.pos).toArray) ∧ Below w.heap.size w w' := by
 have hz := rules_new w
 have hb := (Below.refl w.heap.size w).alloc (Nat.le_refl _) (.cells #[.int .i64 0, .int .i64 0, .slice none 0 0, .slice none 0 0, .int .i64 0, .int .i64 0, .int .i64 0, .int .i64 0, .int .i64 0, .int .i64 0, .int .i64 0, .int .i64 0, .int .i64 0, .int .i64 0, .int .i64 0, .int .i64 0, .int .i64 0, .int .i64 0, .int .i64 0, .int .i64 0, .int .i64 0, .int .i64 0, .int .i64 0, .int .i64 0, .int .i64 0, .int .i64 0, .int .i64 0, .int .i64 0, .int .i64 0, .int .i64 0] 71)
 have hWs : (w.alloc (.cells #[.int .i64 0, .int .i64 0, .slice none 0 0, .slice none 0 0, .int .i64 0, .int .i64 0, .int .i64 0, .int .i64 0, .int .i64 0, .int .i64 0, .int .i64 0, .int .i64 0, .int .i64 0, .int .i64 0, .int .i64 0, .int .i64 0, .int .i64 0, .int .i64 0, .int .i64 0, .int .i64 0, .int .i64 0, .int .i64 0, .int .i64 0, .int .i64 0, .int .i64 0, .int .i64 0, .int .i64 0, .int .i64 0, .int .i64 0, .int .i64 0] 71)).heap.size = w.heap.size + 1 := by simp
 have tl : decide (400 < (s.size : Int)) = false := by simp; omega
 generalize hpp : (parseR s.data.toList).1.pos = pp
 have HPP : Hid _ := hpp
 have HBAD : Hid _ := hbad
 clear hpp hbad
 go_enter Tryz.func26, Tryz.ntmps26
 go_upto_region 2 with fail
 generalize (w.alloc (.cells #[.int .i64 0, .int .i64 0, .slice none 0 0, .slice none 0 0, .int .i64 0, .int .i64 0, .int .i64 0, .int .i64 0, .int .i64 0, .int .i64 0, .int .i64 0, .int .i64 0, .int .i64 0, .int .i64 0, .int .i64 0, .int .i64 0, .int .i64 0, .int .i64 0, .int .i64 0, .int .i64 0, .int .i64 0, .int .i64 0, .int .i64 0, .int .i64 0, .int .i64 0, .int .i64 0, .int .i64 0, .int .i64 0, .int .i64 0, .int .i64 0] 71)) = W at *
 have HZ : Hid _ := hz
 clear hz
 go_wp2_with fail
 refine (parse_any s hs _).mono ?_
 rintro e w1 ⟨hb1, he1, _⟩
 have he2 := he1 HBAD.out
 rw [HPP.out] at he2
 subst he2
 have hz1 : w1.heap[w.heap.size]? = some (.cells (e30 0 0).toArray 71 (0, 0)) := by rw [hb1.block _ (by omega)]; exact HZ.out
 have hbb : Below w.heap.size w w1 := hb.trans (hb1.mono (by omega))
 have hsz1 := hb1.size
 have hz2 : (w1.alloc (.cells #[.slice none 0 0, .slice none 0 0] 68)).heap[w.heap.size]? = some (.cells (e30 0 0).toArray 71 (0, 0)) := by rw [Below.heap_alloc _ _ _ (by omega)]; exact hz1
 have HZ2 : Hid _ := hz2
 clear hb1 he1 hz1 HZ hz2
 go_wp2_with (refine wpList_store_row rfl 71 (.tmp 2) _ rfl w.heap.size (e30 2 pp).toArray rfl rfl 71 (e30 0 0).toArray HZ2.out (by rw [infoRules, e30_size]) rfl (e30_one _ _) ?_)
 have hfin : ((w1.alloc (.cells #[.slice none 0 0, .slice none 0 0] 68)).setRow w.heap.size (e30 2 pp).toArray).heap[w.heap.size]? = some (.cells (e30 2 pp).toArray 71 (0, 0)) := setRow_heap _ _ _ _ _ _ HZ2.out
 exact bodyPost_ret (v := .agg (e30 2 pp).toArray) (results_cell_row rfl _ _ w.heap.size 71 (e30 2 pp).toArray (0, 0) _ rfl hfin Tryz.underlying71 rfl (by rw [infoRules, e30_size])) rfl ⟨rfl, below_setRow (hbb.alloc (by omega) _) (Nat.le_refl _)⟩
structure ParseOk2 (H : Rd × List Hd) (R : Rd × List (RT 9)) : Prop where
 heads : ∀ h ∈ H.2, HdOk h
 few : H.2.length ≤ 1000
 tree : TreeOk 9 R.2
 work : workS 9 R.2 < 1099511627776
set_option maxRecDepth 100000 in
set_option maxHeartbeats 2000000 in
theorem text_name (s : ByteArray) (w : World) (hs : s.size ≤ 400) (hpo : ParseOk s.data.toList) (hbad : (parseR s.data.toList).1.bad = false) (p : Nat) (htw : twiceL [] (parseH s.data.toList).2 = some p) :
  Calls Tryz.prog 26 #[.string s] w fun e w' => e = .returned (.agg (e30 3 p).toArray) ∧ Below w.heap.size w w' := by
 have hz := rules_new w
 have hb := (Below.refl w.heap.size w).alloc (Nat.le_refl _) (.cells #[.int .i64 0, .int .i64 0, .slice none 0 0, .slice none 0 0, .int .i64 0, .int .i64 0, .int .i64 0, .int .i64 0, .int .i64 0, .int .i64 0, .int .i64 0, .int .i64 0, .int .i64 0, .int .i64 0, .int .i64 0, .int .i64 0, .int .i64 0, .int .i64 0, .int .i64 0, .int .i64 0, .int .i64 0, .int .i64 0, .int .i64 0, .int .i64 0, .int .i64 0, .int .i64 0, .int .i64 0, .int .i64 0, .int .i64 0, .int .i64 0] 71)
 have hWs : (w.alloc (.cells #[.int .i64 0, .int .i64 0, .slice none 0 0, .slice none 0 0, .int .i64 0, .int .i64 0, .int .i64 0, .int .i64 0, .int .i64 0, .int .i64 0, .int .i64 0, .int .i64 0, .int .i64 0, .int .i64 0, .int .i64 0, .int .i64 0, .int .i64 0, .int .i64 0, .int .i64 0, .int .i64 0, .int .i64 0, .int .i64 0, .int .i64 0, .int .i64 0, .int .i64 0, .int .i64 0, .int .i64 0, .int .i64 0, .int .i64 0, .int .i64 0] 71)).heap.size = w.heap.size + 1 := by simp
 have tl : decide (400 < (s.size : Int)) = false := by simp; omega
 have HPO0 := hpo
 generalize hHe : parseH s.data.toList = H at *
 generalize hRe : parseR s.data.toList = R at *
 have HHe : Hid (parseH s.data.toList = H) := hHe
 have HRe : Hid (parseR s.data.toList = R) := hRe
 have HPO : Hid (ParseOk2 H R) := ⟨by rw [← hHe]; exact hpo.heads, by rw [← hHe]; exact hpo.few, by rw [← hRe]; exact hpo.tree, by rw [← hRe]; exact hpo.work⟩
 have HBAD : Hid (R.1.bad = false) := hbad
 have HTW : Hid (twiceL [] H.2 = some p) := htw
 clear hHe hRe hpo hbad htw HPO0
 go_enter Tryz.func26, Tryz.ntmps26
 go_upto_region 2 with fail
 generalize (w.alloc (.cells #[.int .i64 0, .int .i64 0, .slice none 0 0, .slice none 0 0, .int .i64 0, .int .i64 0, .int .i64 0, .int .i64 0, .int .i64 0, .int .i64 0, .int .i64 0, .int .i64 0, .int .i64 0, .int .i64 0, .int .i64 0, .int .i64 0, .int .i64 0, .int .i64 0, .int .i64 0, .int .i64 0, .int .i64 0, .int .i64 0, .int .i64 0, .int .i64 0, .int .i64 0, .int .i64 0, .int .i64 0, .int .i64 0, .int .i64 0, .int .i64 0] 71)) = W at *
 have HZ : Hid _ := hz
 clear hz
 go_wp2_with fail
 refine (parse_any s hs _).mono ?_
 rw [HRe.out, HHe.out]
 rintro e w1 ⟨hb1, _, he1⟩
 obtain ⟨vh, vr, rfl, hvh, hvr⟩ := he1 HBAD.out
 obtain ⟨ah, nh, ch, hvh2⟩ : ∃ aa nn cc, vh = .slice aa nn cc := by
  rcases Joins.ownsRow_forms hvh.1 with ⟨rfl, _⟩ | ⟨g, cap, rfl⟩ <;> exact ⟨_, _, _, rfl⟩
 obtain ⟨ar, nr, cr, hvr2⟩ := rulesV_form hvr
 subst hvh2 hvr2
 have hsz1 := hb1.size
 have hz1 : w1.heap[w.heap.size]? = some (.cells (e30 0 0).toArray 71 (0, 0)) := by rw [hb1.block _ (by omega)]; exact HZ.out
 have hbb : Below w.heap.size w w1 := hb.trans (hb1.mono (by omega))
 generalize hW2 : w1.alloc (.cells #[.slice ah nh ch, .slice ar nr cr] 68) = W2
 have HW2 : Hid _ := hW2
 have hb2 : Below w1.heap.size w1 W2 := by rw [← hW2]; exact (Below.refl _ _).alloc (Nat.le_refl _) _
 have hs2 : W2.heap.size = w1.heap.size + 1 := by rw [← hW2]; simp
 have t0 : W2.cell? ⟨w1.heap.size, 0, none⟩ = some (.slice ah nh ch) := by rw [← hW2]; simp [go_sem]
 have t1 : W2.cell? ⟨w1.heap.size, 1, none⟩ = some (.slice ar nr cr) := by rw [← hW2]; simp [go_sem]
 have hz2 : W2.heap[w.heap.size]? = some (.cells (e30 0 0).toArray 71 (0, 0)) := by rw [hb2.block _ (by omega)]; exact hz1
 have hbb2 : Below w.heap.size w W2 := hbb.trans (hb2.mono (by omega))
 have HVH : Hid (HeadsV W2 (fun k => W.heap.size ≤ k) (.slice ah nh ch) H.2) := headsV_frame hvh (fun k hk hl => ⟨hk, hb2.block k hl⟩)
 have HVR : Hid (RulesV 9 W2 (fun k => W.heap.size ≤ k) (.slice ar nr cr) R.2) := rulesV_below hvr hb2
 have HZ2 : Hid (W2.heap[w.heap.size]? = some (.cells (e30 0 0).toArray 71 (0, 0))) := hz2
 have HBB2 : Hid (Below w.heap.size w W2) := hbb2
 clear hb1 hz1 HZ hvh hvr hbb hW2 hb2 hz2 hbb2 hb
 go_upto_region 6 with fail
 rw [HW2.out]
 go_wp2_with fail
 refine (headsDiffer_any H.2 _ _ _ HPO.out.few HVH.out).mono ?_
 rw [HTW.out]
 rintro e w3 ⟨rfl, hb3⟩
 have hz3 : w3.heap[w.heap.size]? = some (.cells (e30 0 0).toArray 71 (0, 0)) := by rw [hb3.block _ (by omega)]; exact HZ2.out
 have HZ3 : Hid _ := hz3
 have hbb3 : Below w.heap.size w w3 := HBB2.out.trans (hb3.mono (by omega))
 clear hz3 hb3
 simp only [resV, Option.getD_some, Option.isNone_some]
 go_wp2_with (refine wpList_store_row rfl 71 (.tmp 2) _ rfl w.heap.size (e30 3 p).toArray rfl rfl 71 (e30 0 0).toArray HZ3.out (by rw [infoRules, e30_size]) rfl (e30_one _ _) ?_)
 have hfin : ((w3).setRow w.heap.size (e30 3 p).toArray).heap[w.heap.size]? = some (.cells (e30 3 p).toArray 71 (0, 0)) := setRow_heap _ _ _ _ _ _ HZ3.out
 exact bodyPost_ret (v := .agg (e30 3 p).toArray) (results_cell_row rfl _ _ w.heap.size 71 (e30 3 p).toArray (0, 0) _ rfl hfin Tryz.underlying71 rfl (by rw [infoRules, e30_size])) rfl ⟨rfl, below_setRow hbb3 (Nat.le_refl _)⟩
set_option maxRecDepth 100000 in
set_option maxHeartbeats 2000000 in
theorem text_large (s : ByteArray) (w : World) (hs : s.size ≤ 400) (hpo : ParseOk s.data.toList) (hbad : (parseR s.data.toList).1.bad = false) (htw : twiceL [] (parseH s.data.toList).2 = none) (hwk : 5000 < workS 9 (parseR s.data.toList).2) :
  Calls Tryz.prog 26 #[.string s] w fun e w' => e = .returned (.agg (e30 4 0).toArray) ∧ Below w.heap.size w w' := by
 have hz := rules_new w
 have hb := (Below.refl w.heap.size w).alloc (Nat.le_refl _) (.cells #[.int .i64 0, .int .i64 0, .slice none 0 0, .slice none 0 0, .int .i64 0, .int .i64 0, .int .i64 0, .int .i64 0, .int .i64 0, .int .i64 0, .int .i64 0, .int .i64 0, .int .i64 0, .int .i64 0, .int .i64 0, .int .i64 0, .int .i64 0, .int .i64 0, .int .i64 0, .int .i64 0, .int .i64 0, .int .i64 0, .int .i64 0, .int .i64 0, .int .i64 0, .int .i64 0, .int .i64 0, .int .i64 0, .int .i64 0, .int .i64 0] 71)
 have hWs : (w.alloc (.cells #[.int .i64 0, .int .i64 0, .slice none 0 0, .slice none 0 0, .int .i64 0, .int .i64 0, .int .i64 0, .int .i64 0, .int .i64 0, .int .i64 0, .int .i64 0, .int .i64 0, .int .i64 0, .int .i64 0, .int .i64 0, .int .i64 0, .int .i64 0, .int .i64 0, .int .i64 0, .int .i64 0, .int .i64 0, .int .i64 0, .int .i64 0, .int .i64 0, .int .i64 0, .int .i64 0, .int .i64 0, .int .i64 0, .int .i64 0, .int .i64 0] 71)).heap.size = w.heap.size + 1 := by simp
 have tl : decide (400 < (s.size : Int)) = false := by simp; omega
 have HPO0 := hpo
 generalize hHe : parseH s.data.toList = H at *
 generalize hRe : parseR s.data.toList = R at *
 have HHe : Hid (parseH s.data.toList = H) := hHe
 have HRe : Hid (parseR s.data.toList = R) := hRe
 have HPO : Hid (ParseOk2 H R) := ⟨by rw [← hHe]; exact hpo.heads, by rw [← hHe]; exact hpo.few, by rw [← hRe]; exact hpo.tree, by rw [← hRe]; exact hpo.work⟩
 have HBAD : Hid (R.1.bad = false) := hbad
 have HTW : Hid (twiceL [] H.2 = none) := htw
 have hwl : workS 9 R.2 < 1099511627776 := HPO.out.work
 generalize hke : workS 9 R.2 = k at *
 have HKE : Hid (workS 9 R.2 = k) := hke
 clear hHe hRe hpo hbad htw HPO0 hke
 go_enter Tryz.func26, Tryz.ntmps26
 go_upto_region 2 with fail
 generalize (w.alloc (.cells #[.int .i64 0, .int .i64 0, .slice none 0 0, .slice none 0 0, .int .i64 0, .int .i64 0, .int .i64 0, .int .i64 0, .int .i64 0, .int .i64 0, .int .i64 0, .int .i64 0, .int .i64 0, .int .i64 0, .int .i64 0, .int .i64 0, .int .i64 0, .int .i64 0, .int .i64 0, .int .i64 0, .int .i64 0, .int .i64 0, .int .i64 0, .int .i64 0, .int .i64 0, .int .i64 0, .int .i64 0, .int .i64 0, .int .i64 0, .int .i64 0] 71)) = W at *
 have HZ : Hid _ := hz
 clear hz
 go_wp2_with fail
 refine (parse_any s hs _).mono ?_
 rw [HRe.out, HHe.out]
 rintro e w1 ⟨hb1, _, he1⟩
 obtain ⟨vh, vr, rfl, hvh, hvr⟩ := he1 HBAD.out
 obtain ⟨ah, nh, ch, hvh2⟩ : ∃ aa nn cc, vh = .slice aa nn cc := by
  rcases Joins.ownsRow_forms hvh.1 with ⟨rfl, _⟩ | ⟨g, cap, rfl⟩ <;> exact ⟨_, _, _, rfl⟩
 obtain ⟨ar, nr, cr, hvr2⟩ := rulesV_form hvr
 subst hvh2 hvr2
 have hsz1 := hb1.size
 have hz1 : w1.heap[w.heap.size]? = some (.cells (e30 0 0).toArray 71 (0, 0)) := by rw [hb1.block _ (by omega)]; exact HZ.out
 have hbb : Below w.heap.size w w1 := hb.trans (hb1.mono (by omega))
 generalize hW2 : w1.alloc (.cells #[.slice ah nh ch, .slice ar nr cr] 68) = W2
 have HW2 : Hid _ := hW2
 have hb2 : Below w1.heap.size w1 W2 := by rw [← hW2]; exact (Below.refl _ _).alloc (Nat.le_refl _) _
 have hs2 : W2.heap.size = w1.heap.size + 1 := by rw [← hW2]; simp
 have t0 : W2.cell? ⟨w1.heap.size, 0, none⟩ = some (.slice ah nh ch) := by rw [← hW2]; simp [go_sem]
 have t1 : W2.cell? ⟨w1.heap.size, 1, none⟩ = some (.slice ar nr cr) := by rw [← hW2]; simp [go_sem]
 have hz2 : W2.heap[w.heap.size]? = some (.cells (e30 0 0).toArray 71 (0, 0)) := by rw [hb2.block _ (by omega)]; exact hz1
 have hbb2 : Below w.heap.size w W2 := hbb.trans (hb2.mono (by omega))
 have HVH : Hid (HeadsV W2 (fun k => W.heap.size ≤ k) (.slice ah nh ch) H.2) := headsV_frame hvh (fun k hk hl => ⟨hk, hb2.block k hl⟩)
 have HVR : Hid (RulesV 9 W2 (fun k => W.heap.size ≤ k) (.slice ar nr cr) R.2) := rulesV_below hvr hb2
 have HZ2 : Hid (W2.heap[w.heap.size]? = some (.cells (e30 0 0).toArray 71 (0, 0))) := hz2
 have HBB2 : Hid (Below w.heap.size w W2) := hbb2
 clear hb1 hz1 HZ hvh hvr hbb hW2 hb2 hz2 hbb2 hb
 go_upto_region 6 with fail
 rw [HW2.out]
 go_wp2_with fail
 refine (headsDiffer_any H.2 _ _ _ HPO.out.few HVH.out).mono ?_
 rw [HTW.out]
 rintro e w3 ⟨rfl, hb3⟩
 have hz3 : w3.heap[w.heap.size]? = some (.cells (e30 0 0).toArray 71 (0, 0)) := by rw [hb3.block _ (by omega)]; exact HZ2.out
 have HZ3 : Hid _ := hz3
 have HBB3 : Hid (Below w.heap.size w w3) := HBB2.out.trans (hb3.mono (by omega))
 have HVR3 : Hid (RulesV 9 w3 (fun k => W.heap.size ≤ k) (.slice ar nr cr) R.2) := rulesV_below HVR.out hb3
 rw [← hb3.cell (p := ⟨w1.heap.size, 1, none⟩) (by simp only; omega)] at t1
 have hs3 := hb3.size
 clear hz3 hb3 t0
 simp only [resV, Option.getD_none, Option.isNone_none]
 go_wp2_with fail
 refine (workOfAll_any 9 R.2 _ _ _ HPO.out.tree (by rw [HKE.out]; exact hwl) HVR3.out).mono ?_
 rw [HKE.out]
 rintro e w4 ⟨rfl, hb4⟩
 have tk : decide (5000 < (k : Int)) = true := by simp; omega
 have hz4 : w4.heap[w.heap.size]? = some (.cells (e30 0 0).toArray 71 (0, 0)) := by rw [hb4.block _ (by omega)]; exact HZ3.out
 have HZ4 : Hid _ := hz4
 have hbb4 : Below w.heap.size w w4 := HBB3.out.trans (hb4.mono (by omega))
 clear hz4 hb4
 go_wp2_with (refine wpList_store_row rfl 71 (.tmp 2) _ rfl w.heap.size (e30 4 0).toArray rfl rfl 71 (e30 0 0).toArray HZ4.out (by rw [infoRules, e30_size]) rfl (e30_one _ _) ?_)
 have hfin : ((w4).setRow w.heap.size (e30 4 0).toArray).heap[w.heap.size]? = some (.cells (e30 4 0).toArray 71 (0, 0)) := setRow_heap _ _ _ _ _ _ HZ4.out
 exact bodyPost_ret (v := .agg (e30 4 0).toArray) (results_cell_row rfl _ _ w.heap.size 71 (e30 4 0).toArray (0, 0) _ rfl hfin Tryz.underlying71 rfl (by rw [infoRules, e30_size])) rfl ⟨rfl, below_setRow hbb4 (Nat.le_refl _)⟩
end Go.Proofs.YtdgmoiflahoihaaGreatDoor
