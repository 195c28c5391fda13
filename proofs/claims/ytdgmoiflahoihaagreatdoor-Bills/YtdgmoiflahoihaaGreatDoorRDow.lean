import Derived.Test.YtdgmoiflahoihaaGreatDoorPCheckw
import Derived.RegionTactic
import Derived.Test.YtdgmoiflahoihaaGreatDoorPRu4w

namespace Go.Proofs.YtdgmoiflahoihaaGreatDoor
open Go.RowKit
set_option linter.unusedSimpArgs false
set_option linter.unusedVariables false
def DoCalls (n : Nat) : Prop := ∀ (b : Nat) (S : Nat → Prop) (s : SR) (l : List (RT n)) (P : Nat → Prop) (v : Value) (w : World), TreeOk n l → NumsOk n l → StOk s → s.2.length + workS n l ≤ 100000 → StateAt w b S s → RulesV n w P v l → (∀ k, P k → k < b) → (∀ k, S k → b < k) →
 Calls Tryz.prog 68 #[.pointer (some ⟨b, 0, none⟩), v] w fun e w' => e = .returned (.tuple #[]) ∧ StepAt b S w w' (doF n s l)
theorem rulesV_lower {n b : Nat} {w w' : World} {P : Nat → Prop} {v : Value} {l : List (RT n)} (h : RulesV n w P v l) (hP : ∀ k, P k → k < b) (hb : Below b w w') : RulesV n w' P v l :=
 rulesV_frame (fun k hk hl => ⟨hk, hb.block k (hP k hk)⟩) n v l h
theorem partsV_lower {b : Nat} {w w' : World} {P : Nat → Prop} {v : Value} {l : List Pt} (h : PartsV w P v l) (hP : ∀ k, P k → k < b) (hb : Below b w w') : PartsV w' P v l :=
 partsV_frame h (fun k hk hl => ⟨hk, hb.block k (hP k hk)⟩)
theorem res_drew {W w5 : World} {t : TypeId} (h : Below (W.alloc (.cells #[.int .i64 0, .int .i64 0] t)).drew.heap.size (W.alloc (.cells #[.int .i64 0, .int .i64 0] t)).drew w5) :
  w5.cell? ⟨W.heap.size, 0, none⟩ = some (.int .i64 0) ∧ w5.cell? ⟨W.heap.size, 1, none⟩ = some (.int .i64 0) ∧ (∀ o, w5.frozen? ⟨W.heap.size, o, none⟩ = false) ∧ Below W.heap.size W w5 :=
 res_below (w := W) (t := t) (w1 := w5) ⟨h.os, h.tape, h.output, h.size, h.block⟩
theorem below_undrew {W w5 : World} (h : Below W.drew.heap.size W.drew w5) : Below W.heap.size W w5 := ⟨h.os, h.tape, h.output, h.size, h.block⟩
theorem held_of {W V : World} {b g : Nat} {cs : List Value} {u : Value} (h1 : W.rangeAt b 0 cs) (h2 : W.cell? ⟨g, 5, none⟩ = some u) (e1 : V.heap[b]? = W.heap[b]?) (e2 : V.heap[g]? = W.heap[g]?) : V.rangeAt b 0 cs ∧ V.cell? ⟨g, 5, none⟩ = some u :=
 ⟨fun j v hv => (World.cell?_of_block (a := ⟨b, 0 + j, none⟩) e1).trans (h1 j v hv), (World.cell?_of_block (a := ⟨g, 5, none⟩) e2).trans h2⟩
set_option maxRecDepth 100000 in
set_option maxHeartbeats 2000000 in
theorem choose_step (n : Nat) (ih : DoCalls n) (b : Nat) (S : Nat → Prop) (s : SR) (q : Core × List (RT n) × List (RT n)) (P : Nat → Prop) (ve v1 v2 : Value) (w : World) (hk3 : q.1.kind = 3) (hc : CoreOk q.1) (h1 : TreeOk n q.2.1) (h2 : TreeOk n q.2.2) (hp : ∀ p ∈ q.1.parts, PtNum p) (m1 : NumsOk n q.2.1) (m2 : NumsOk n q.2.2) (hs : StOk s)
  (hw : s.2.length + workT (workS n) q ≤ 100000) (hS : StateAt w b S s) (hve : PartsV w P ve q.1.parts) (hr1 : RulesV n w P v1 q.2.1) (hr2 : RulesV n w P v2 q.2.2) (hP : ∀ k, P k → k < b) (hSb : ∀ k, S k → b < k) :
  Calls Tryz.prog 137 #[.pointer (some ⟨b, 0, none⟩), .agg #[.int .i64 q.1.kind, .int .i64 q.1.place, .int .i64 q.1.name, .int .i64 q.1.label, .int .i64 q.1.count, ve, v1, v2]] w fun e w' => e = .returned (.tuple #[]) ∧ StepAt b S w w' (doT (doF n) s q) := by
 obtain ⟨c, l1, l2⟩ := q
 simp only at *
 have hlw := hS.lt
 have hwk : workT (workS n) (c, l1, l2) = 1 + c.parts.length + workS n l1 + workS n l2 := by unfold workT; rw [if_neg (by simp only; omega)]
 have hD : doT (doF n) s (c, l1, l2) = if (valueV s.1 c.parts).fault ≠ 0 then s else if (valueV s.1 c.parts).num ≠ 0 then doF n s l1 else doF n s l2 := by unfold doT; simp [hk3]
 rw [hD]
 obtain ⟨ae, ne, ce, hvee⟩ : ∃ aa nn cc, ve = .slice aa nn cc := by
  rcases Joins.ownsRow_forms hve.1 with ⟨rfl, _⟩ | ⟨g, cap, rfl⟩ <;> exact ⟨_, _, _, rfl⟩
 subst hvee
 obtain ⟨a1, n1, c1, hv1⟩ := rulesV_form hr1
 obtain ⟨a2, n2, c2, hv2⟩ := rulesV_form hr2
 have hEV : v1 = .slice a1 n1 c1 ∧ v2 = .slice a2 n2 c2 := ⟨hv1, hv2⟩
 clear hv1 hv2
 obtain ⟨rfl, rfl⟩ := hEV
 generalize hW : w.alloc (.cells #[.int .i64 c.kind, .int .i64 c.place, .int .i64 c.name, .int .i64 c.label, .int .i64 c.count, .slice ae ne ce, .slice a1 n1 c1, .slice a2 n2 c2] 149) = W
 have HWe : Hid _ := hW
 have hBB : Below w.heap.size w W := by rw [← hW]; exact (Below.refl _ _).alloc (Nat.le_refl _) _
 have hSW : StateAt W b S s := hS.keep hBB (Nat.le_refl _)
 have hWs : W.heap.size = w.heap.size + 1 := by rw [← hW]; simp
 have q5 : W.cell? ⟨w.heap.size, 5, none⟩ = some (.slice ae ne ce) := by rw [← hW]; simp [go_sem]
 have q6 : W.cell? ⟨w.heap.size, 6, none⟩ = some (.slice a1 n1 c1) := by rw [← hW]; simp [go_sem]
 have q7 : W.cell? ⟨w.heap.size, 7, none⟩ = some (.slice a2 n2 c2) := by rw [← hW]; simp [go_sem]
 have HVE : Hid (PartsV W P (.slice ae ne ce) c.parts) := partsV_below hve hBB
 have HR1 : Hid (RulesV n W P (.slice a1 n1 c1) l1) := rulesV_below hr1 hBB
 have HR2 : Hid (RulesV n W P (.slice a2 n2 c2) l2) := rulesV_below hr2 hBB
 have hra := hSW.range hs.len
 have HSW : Hid (StateAt W b S s) := hSW
 have HBW : Hid (Below w.heap.size w W) := hBB
 have HS : Hid (StOk s) := hs
 have HC : Hid (CoreOk c) := hc
 have H1 : Hid (TreeOk n l1) := h1
 have H2 : Hid (TreeOk n l2) := h2
 have M1 : Hid (NumsOk n l1) := m1
 have M2 : Hid (NumsOk n l2) := m2
 have HP : Hid (∀ k, P k → k < b) := hP
 have HSB : Hid (∀ k, S k → b < k) := hSb
 have HPN : Hid (∀ p ∈ c.parts, PtNum p) := hp
 have IH : Hid (DoCalls n) := ih
 have hu := Tryz.underlying102
 have hi : (Tryz.prog.info? 102).map (fun i => i.size) = some (vlCells s.1).length := by rw [infoVals, vlCells_len, hs.len]
 have hltW : w.heap.size < W.heap.size := by omega
 have hblW : b < W.heap.size := by omega
 have hne : ¬ w.heap.size = W.heap.size := by omega
 have hne2 : ¬ b = W.heap.size := by omega
 have HSV : Hid (∀ V : World, V.heap[b]? = W.heap[b]? → V.heap[w.heap.size]? = W.heap[w.heap.size]? → V.rangeAt b 0 (vlCells s.1) ∧ V.cell? ⟨w.heap.size, 5, none⟩ = some (.slice ae ne ce)) := fun V e1 e2 => held_of hra q5 e1 e2
 generalize hx : valueV s.1 c.parts = x at *
 have HX : Hid (valueV s.1 c.parts = x) := hx
 generalize hres : (if x.fault ≠ 0 then s else if x.num ≠ 0 then doF n s l1 else doF n s l2) = res at *
 have HRES : Hid _ := hres
 clear hve hr1 hr2 hS hs hc h1 h2 hp m1 m2 hP hSb ih hSW hBB hW hx hD hres hWs hk3
 go_enter Tryz.func137, Tryz.ntmps137
 go_upto_region 1 with fail
 rw [HWe.out]
 go_cut [4] from 4 to 27 (fun y wx => ∃ g4, y = .pointer (some ⟨g4, 0, none⟩) ∧ Below W.heap.size W wx ∧ wx.cell? ⟨g4, 0, none⟩ = some (.int .i64 x.num) ∧ wx.cell? ⟨g4, 1, none⟩ = some (.int .i64 x.fault))
 case first =>
  go_region_held3 (fun w' => w'.rangeAt b 0 (vlCells s.1) ∧ w'.cell? ⟨w.heap.size, 5, none⟩ = some (.slice ae ne ce)) (first | exact HSV.out _ rfl rfl | exact HSV.out _ (hb5.block _ hblW) (hb5.block _ hltW) | exact HSV.out _ ((Below.heap_alloc _ _ _ (Nat.lt_of_lt_of_le hblW hb5.size)).trans (hb5.block _ hblW)) ((Below.heap_alloc _ _ _ (Nat.lt_of_lt_of_le hltW hb5.size)).trans (hb5.block _ hltW)) | exact HSV.out _ (Below.heap_alloc _ _ _ hblW) (Below.heap_alloc _ _ _ hltW) | exact HSV.out _ ((hb5.block _ (by simp; omega)).trans (Below.heap_alloc _ _ _ hblW)) ((hb5.block _ (by simp; omega)).trans (Below.heap_alloc _ _ _ hltW)) | exact HSV.out _ (((Below.heap_setCell _ _ _ _ (by simp only; omega)).trans (Below.heap_setCell _ _ _ _ (by simp only; omega))).trans ((hb5.block _ (by simp; omega)).trans (Below.heap_alloc _ _ _ hblW))) (((Below.heap_setCell _ _ _ _ (by simp only; omega)).trans (Below.heap_setCell _ _ _ _ (by simp only; omega))).trans ((hb5.block _ (by simp; omega)).trans (Below.heap_alloc _ _ _ hltW)))) ((go_at_call 135; refine (valueOf_any c.parts s.1 P _ _ HS.out.len HS.out.ok HC.out.few HC.out.parts HPN.out (partsV_below HVE.out (by first | exact (Below.refl _ _).drew | exact ((Below.refl _ _).alloc (Nat.le_refl _) _).drew))).mono ?_; rintro x1 w5 ⟨rfl, hb5⟩; rw [HX.out]; (first | (have zz := res_drew (W := W) (t := 59) hb5; obtain ⟨z0, z1, zf, zb⟩ := zz) | skip)))
  all_goals (go_wp2_with fail; go_meet)
  ·refine ⟨w5.heap.size, rfl, ?_, by simp [go_sem], by simp [go_sem]⟩
   exact (below_undrew hb5).alloc (below_undrew hb5).size _
  ·exact ⟨W.heap.size, rfl, (zb.setCell (Nat.le_refl _) _).setCell (Nat.le_refl _) _, by simp [go_sem, z0, z1], by simp [go_sem, z0, z1]⟩
 case rest =>
  obtain ⟨g4, rfl, hbx, y0, y1⟩ := hcut
  have HSX : Hid (StateAt wc b S s) := HSW.out.keep hbx (Nat.le_refl _)
  have HR1x : Hid (RulesV n wc P (.slice a1 n1 c1) l1) := rulesV_below HR1.out hbx
  have HR2x : Hid (RulesV n wc P (.slice a2 n2 c2) l2) := rulesV_below HR2.out hbx
  have HBX : Hid (Below w.heap.size w wc) := HBW.out.trans (hbx.mono (by omega))
  rw [← hbx.cell (p := ⟨w.heap.size, 6, none⟩) hltW] at q6
  rw [← hbx.cell (p := ⟨w.heap.size, 7, none⟩) hltW] at q7
  clear hbx HSW HR1 HR2 HBW HVE q5 hra hu hi HSV
  by_cases f0 : x.fault = 0
  ·have tf : (x.fault != 0) = false := by simp [f0]
   rw [f0] at y1
   by_cases n0 : x.num = 0
   ·have HE : Hid (doF n s l2 = res) := by have := HRES.out; show _ = _; rw [← this]; simp [f0, n0]
    rw [n0] at y0
    clear HRES
    go_wp2_with fail
    refine (IH.out b S s l2 P _ _ H2.out M2.out HS.out (by omega) HSX.out HR2x.out HP.out HSB.out).mono ?_
    rw [HE.out]
    rintro e w6 ⟨rfl, hs6⟩
    go_wp2_with fail
    go_end0
    exact ⟨rfl, hs6.pre HBX.out⟩
   ·have HE : Hid (doF n s l1 = res) := by have := HRES.out; show _ = _; rw [← this]; simp [f0, n0]
    have tn : (x.num != 0) = true := by simpa using n0
    clear HRES
    go_wp2_with fail
    refine (IH.out b S s l1 P _ _ H1.out M1.out HS.out (by omega) HSX.out HR1x.out HP.out HSB.out).mono ?_
    rw [HE.out]
    rintro e w6 ⟨rfl, hs6⟩
    go_wp2_with fail
    go_end0
    exact ⟨rfl, hs6.pre HBX.out⟩
  ·have HE : Hid (s = res) := by have := HRES.out; show _ = _; rw [← this]; simp [f0]
   have tf : (x.fault != 0) = true := by simpa using f0
   clear HRES
   go_wp2_with fail
   have hse := HE.out
   subst hse
   exact bodyPost_ret (v := .tuple #[]) (by simp [results, Tryz.results137, go_sem]) rfl ⟨rfl, StepAt.still HSX.out HBX.out⟩
end Go.Proofs.YtdgmoiflahoihaaGreatDoor
namespace Go.Proofs.YtdgmoiflahoihaaGreatDoor
open Go.RowKit
set_option linter.unusedSimpArgs false
set_option linter.unusedVariables false
theorem Onto.more {b : Nat} {S R : Nat → Prop} {w w' : World} (h : Onto b S w w') (hs : ∀ k, S k → R k) : Onto b R w w' := ⟨h.os, h.tape, h.output, h.size, fun k hk hb hr => h.block k hk hb (fun e => hr (hs k e))⟩
theorem StepAt.more {b : Nat} {S R : Nat → Prop} {w w' : World} {s : SR} (h : StepAt b S w w' s) (hs : ∀ k, S k → R k) : StepAt b R w w' s :=
 ⟨h.state.weak (fun k hk _ _ => by rcases hk with hk | hk; exact .inl (hs k hk); exact .inr hk), h.onto.more hs⟩
set_option maxRecDepth 100000 in
set_option maxHeartbeats 2000000 in
theorem do_give (n : Nat) (b : Nat) (S : Nat → Prop) (s : SR) (q : Core × List (RT n) × List (RT n)) (P : Nat → Prop) (ve v1 v2 : Value) (w : World) (hc : CoreOk q.1) (h1 : TreeOk n q.2.1) (h2 : TreeOk n q.2.2) (hp : ∀ p ∈ q.1.parts, PtNum p) (m1 : NumsOk n q.2.1) (m2 : NumsOk n q.2.2) (hs : StOk s)
  (hw : s.2.length + workT (workS n) q ≤ 100000) (hS : StateAt w b S s) (hve : PartsV w P ve q.1.parts) (hr1 : RulesV n w P v1 q.2.1) (hr2 : RulesV n w P v2 q.2.2) (hP : ∀ k, P k → k < b) (hSb : ∀ k, S k → b < k) (hk : q.1.kind = 0) :
  Calls Tryz.prog 101 #[.pointer (some ⟨b, 0, none⟩), .agg #[.int .i64 q.1.kind, .int .i64 q.1.place, .int .i64 q.1.name, .int .i64 q.1.label, .int .i64 q.1.count, ve, v1, v2]] w fun e w' => e = .returned (.tuple #[]) ∧ StepAt b S w w' (doT (doF n) s q) := by
 obtain ⟨c, l1, l2⟩ := q
 simp only at *
 have hlw := hS.lt
 obtain ⟨ae, ne, ce, hvee⟩ : ∃ aa nn cc, ve = .slice aa nn cc := by
  rcases Joins.ownsRow_forms hve.1 with ⟨rfl, _⟩ | ⟨g, cap, rfl⟩ <;> exact ⟨_, _, _, rfl⟩
 subst hvee
 obtain ⟨a1, n1, c1, hv1⟩ := rulesV_form hr1
 obtain ⟨a2, n2, c2, hv2⟩ := rulesV_form hr2
 have hEV : v1 = .slice a1 n1 c1 ∧ v2 = .slice a2 n2 c2 := ⟨hv1, hv2⟩
 clear hv1 hv2
 obtain ⟨rfl, rfl⟩ := hEV
 generalize hW : w.alloc (.cells #[.int .i64 c.kind, .int .i64 c.place, .int .i64 c.name, .int .i64 c.label, .int .i64 c.count, .slice ae ne ce, .slice a1 n1 c1, .slice a2 n2 c2] 149) = W
 have HWe : Hid _ := hW
 have hBB : Below w.heap.size w W := by rw [← hW]; exact (Below.refl _ _).alloc (Nat.le_refl _) _
 have hSW : StateAt W b S s := hS.keep hBB (Nat.le_refl _)
 have hWs : W.heap.size = w.heap.size + 1 := by rw [← hW]; simp
 have q0 : W.cell? ⟨w.heap.size, 0, none⟩ = some (.int .i64 c.kind) := by rw [← hW]; simp [go_sem]
 have q1 : W.cell? ⟨w.heap.size, 1, none⟩ = some (.int .i64 c.place) := by rw [← hW]; simp [go_sem]
 have q2 : W.cell? ⟨w.heap.size, 2, none⟩ = some (.int .i64 c.name) := by rw [← hW]; simp [go_sem]
 have q3 : W.cell? ⟨w.heap.size, 3, none⟩ = some (.int .i64 c.label) := by rw [← hW]; simp [go_sem]
 have q4 : W.cell? ⟨w.heap.size, 4, none⟩ = some (.int .i64 c.count) := by rw [← hW]; simp [go_sem]
 have q5 : W.cell? ⟨w.heap.size, 5, none⟩ = some (.slice ae ne ce) := by rw [← hW]; simp [go_sem]
 have q6 : W.cell? ⟨w.heap.size, 6, none⟩ = some (.slice a1 n1 c1) := by rw [← hW]; simp [go_sem]
 have q7 : W.cell? ⟨w.heap.size, 7, none⟩ = some (.slice a2 n2 c2) := by rw [← hW]; simp [go_sem]
 have HVE : Hid (PartsV W P (.slice ae ne ce) c.parts) := partsV_below hve hBB
 have HR1 : Hid (RulesV n W P (.slice a1 n1 c1) l1) := rulesV_below hr1 hBB
 have HR2 : Hid (RulesV n W P (.slice a2 n2 c2) l2) := rulesV_below hr2 hBB
 have hra := hSW.range hs.len
 have HSW : Hid (StateAt W b S s) := hSW
 have HBW : Hid (Below w.heap.size w W) := hBB
 have HS : Hid (StOk s) := hs
 have HC : Hid (CoreOk c) := hc
 have H1 : Hid (TreeOk n l1) := h1
 have H2 : Hid (TreeOk n l2) := h2
 have M1 : Hid (NumsOk n l1) := m1
 have M2 : Hid (NumsOk n l2) := m2
 have HP : Hid (∀ k, P k → k < b) := hP
 have HSB : Hid (∀ k, S k → b < k) := hSb
 have HPN : Hid (∀ p ∈ c.parts, PtNum p) := hp
 have hu := Tryz.underlying102
 have hi : (Tryz.prog.info? 102).map (fun i => i.size) = some (vlCells s.1).length := by rw [infoVals, vlCells_len, hs.len]
 have hltW : w.heap.size < W.heap.size := by omega
 have hblW : b < W.heap.size := by omega
 have hne : ¬ w.heap.size = W.heap.size := by omega
 have hne2 : ¬ b = W.heap.size := by omega
 have HSV : Hid (∀ V : World, V.heap[b]? = W.heap[b]? → V.heap[w.heap.size]? = W.heap[w.heap.size]? → V.rangeAt b 0 (vlCells s.1) ∧ V.cell? ⟨w.heap.size, 5, none⟩ = some (.slice ae ne ce)) := fun V e1 e2 => held_of hra q5 e1 e2
 generalize hx : valueV s.1 c.parts = x
 have HX : Hid (valueV s.1 c.parts = x) := hx
 generalize hres : doT (doF n) s (c, l1, l2) = res at *
 have HRES : Hid (doT (doF n) s (c, l1, l2) = res) := hres
 have hVO : VlOk x := by rw [← hx]; exact valueV_ok hs.ok hp
 clear hve hr1 hr2 hS hs hc h1 h2 hp m1 m2 hP hSb hSW hBB hW hx hres hWs
 obtain ⟨n0, n1'⟩ := HC.out.name (.inl hk)
 have HE : Hid ((s.1.set c.name.toNat x, s.2) = res) := by have := HRES.out; show _ = _; rw [← this]; unfold doT; simp [hk, HX.out]
 clear HRES
 rw [hk] at q0
 have HK : Hid (c.kind = 0) := hk
 clear hk
 generalize hnm : c.name = nm at *
 obtain ⟨nn, rfl⟩ : ∃ nn : Nat, nm = nn := ⟨nm.toNat, by omega⟩
 rw [Int.toNat_natCast] at HE
 have HNM : Hid (c.name = (nn : Int)) := hnm
 clear hnm
 have hnn : nn < 26 := by omega
 go_enter Tryz.func101, Tryz.ntmps101
 go_upto_region 1 with fail
 rw [HWe.out]
 go_upto_region 3 with fail
 go_cut [4] from 4 to 75 (fun y wx => ∃ g4, y = .pointer (some ⟨g4, 0, none⟩) ∧ Below W.heap.size W wx ∧ wx.cell? ⟨g4, 0, none⟩ = some (.int .i64 x.num) ∧ wx.cell? ⟨g4, 1, none⟩ = some (.int .i64 x.fault) ∧ W.heap.size ≤ g4)
 case first =>
  go_region_held3 (fun w' => w'.rangeAt b 0 (vlCells s.1) ∧ w'.cell? ⟨w.heap.size, 5, none⟩ = some (.slice ae ne ce)) (first | exact HSV.out _ rfl rfl | exact HSV.out _ (hb5.block _ hblW) (hb5.block _ hltW) | exact HSV.out _ ((Below.heap_alloc _ _ _ (Nat.lt_of_lt_of_le hblW hb5.size)).trans (hb5.block _ hblW)) ((Below.heap_alloc _ _ _ (Nat.lt_of_lt_of_le hltW hb5.size)).trans (hb5.block _ hltW)) | exact HSV.out _ (Below.heap_alloc _ _ _ hblW) (Below.heap_alloc _ _ _ hltW) | exact HSV.out _ ((hb5.block _ (by simp; omega)).trans (Below.heap_alloc _ _ _ hblW)) ((hb5.block _ (by simp; omega)).trans (Below.heap_alloc _ _ _ hltW)) | exact HSV.out _ (((Below.heap_setCell _ _ _ _ (by simp only; omega)).trans (Below.heap_setCell _ _ _ _ (by simp only; omega))).trans ((hb5.block _ (by simp; omega)).trans (Below.heap_alloc _ _ _ hblW))) (((Below.heap_setCell _ _ _ _ (by simp only; omega)).trans (Below.heap_setCell _ _ _ _ (by simp only; omega))).trans ((hb5.block _ (by simp; omega)).trans (Below.heap_alloc _ _ _ hltW)))) ((go_at_call 135; refine (valueOf_any c.parts s.1 P _ _ HS.out.len HS.out.ok HC.out.few HC.out.parts HPN.out (partsV_below HVE.out (by first | exact (Below.refl _ _).drew | exact ((Below.refl _ _).alloc (Nat.le_refl _) _).drew))).mono ?_; rintro x1 w5 ⟨rfl, hb5⟩; rw [HX.out]; (first | (have zz := res_drew (W := W) (t := 59) hb5; obtain ⟨z0, z1, zf, zb⟩ := zz) | skip)))
  all_goals (go_wp2_with fail; go_meet)
  ·refine ⟨w5.heap.size, rfl, ?_, by simp [go_sem], by simp [go_sem], (below_undrew hb5).size⟩
   exact (below_undrew hb5).alloc (below_undrew hb5).size _
  ·exact ⟨W.heap.size, rfl, (zb.setCell (Nat.le_refl _) _).setCell (Nat.le_refl _) _, by simp [go_sem, z0, z1], by simp [go_sem, z0, z1], Nat.le_refl _⟩
 case rest =>
  obtain ⟨g4, rfl, hbx, y0, y1, hg4⟩ := hcut
  have hSX : StateAt wc b S s := HSW.out.keep hbx (Nat.le_refl _)
  have HBX : Hid (Below w.heap.size w wc) := HBW.out.trans (hbx.mono (by omega))
  rw [← hbx.cell (p := ⟨w.heap.size, 2, none⟩) hltW] at q2
  clear hbx HSW HR1 HR2 HBW HVE q0 q1 q3 q4 q5 q6 q7 hra hu hi HSV
  obtain ⟨e0, e1⟩ := hSX.cell nn hnn
  have fz := hSX.fz
  have HSX : Hid (StateAt wc b S s) := hSX
  clear hSX
  go_wp2_with fail
  go_region
  all_goals go_wp2_with fail
  all_goals go_end0
  all_goals refine ⟨rfl, ?_⟩
  all_goals rw [← HE.out]
  all_goals exact ⟨((HSX.out.set HS.out.len nn hnn x).drew).weak (fun k hk _ _ => .inl hk), (((Onto.of_below HBX.out).setCell _ _).setCell _ _).drew⟩
set_option maxRecDepth 100000 in
set_option maxHeartbeats 2000000 in
theorem do_open (n : Nat) (b : Nat) (S : Nat → Prop) (s : SR) (q : Core × List (RT n) × List (RT n)) (P : Nat → Prop) (ve v1 v2 : Value) (w : World) (hc : CoreOk q.1) (h1 : TreeOk n q.2.1) (h2 : TreeOk n q.2.2) (hp : ∀ p ∈ q.1.parts, PtNum p) (m1 : NumsOk n q.2.1) (m2 : NumsOk n q.2.2) (hs : StOk s)
  (hw : s.2.length + workT (workS n) q ≤ 100000) (hS : StateAt w b S s) (hve : PartsV w P ve q.1.parts) (hr1 : RulesV n w P v1 q.2.1) (hr2 : RulesV n w P v2 q.2.2) (hP : ∀ k, P k → k < b) (hSb : ∀ k, S k → b < k) (hk : q.1.kind = 1) :
  Calls Tryz.prog 101 #[.pointer (some ⟨b, 0, none⟩), .agg #[.int .i64 q.1.kind, .int .i64 q.1.place, .int .i64 q.1.name, .int .i64 q.1.label, .int .i64 q.1.count, ve, v1, v2]] w fun e w' => e = .returned (.tuple #[]) ∧ StepAt b S w w' (doT (doF n) s q) := by
 obtain ⟨c, l1, l2⟩ := q
 simp only at *
 have hlw := hS.lt
 obtain ⟨ae, ne, ce, hvee⟩ : ∃ aa nn cc, ve = .slice aa nn cc := by
  rcases Joins.ownsRow_forms hve.1 with ⟨rfl, _⟩ | ⟨g, cap, rfl⟩ <;> exact ⟨_, _, _, rfl⟩
 subst hvee
 obtain ⟨a1, n1, c1, hv1⟩ := rulesV_form hr1
 obtain ⟨a2, n2, c2, hv2⟩ := rulesV_form hr2
 have hEV : v1 = .slice a1 n1 c1 ∧ v2 = .slice a2 n2 c2 := ⟨hv1, hv2⟩
 clear hv1 hv2
 obtain ⟨rfl, rfl⟩ := hEV
 generalize hW : w.alloc (.cells #[.int .i64 c.kind, .int .i64 c.place, .int .i64 c.name, .int .i64 c.label, .int .i64 c.count, .slice ae ne ce, .slice a1 n1 c1, .slice a2 n2 c2] 149) = W
 have HWe : Hid _ := hW
 have hBB : Below w.heap.size w W := by rw [← hW]; exact (Below.refl _ _).alloc (Nat.le_refl _) _
 have hSW : StateAt W b S s := hS.keep hBB (Nat.le_refl _)
 have hWs : W.heap.size = w.heap.size + 1 := by rw [← hW]; simp
 have q0 : W.cell? ⟨w.heap.size, 0, none⟩ = some (.int .i64 c.kind) := by rw [← hW]; simp [go_sem]
 have q1 : W.cell? ⟨w.heap.size, 1, none⟩ = some (.int .i64 c.place) := by rw [← hW]; simp [go_sem]
 have q2 : W.cell? ⟨w.heap.size, 2, none⟩ = some (.int .i64 c.name) := by rw [← hW]; simp [go_sem]
 have q3 : W.cell? ⟨w.heap.size, 3, none⟩ = some (.int .i64 c.label) := by rw [← hW]; simp [go_sem]
 have q4 : W.cell? ⟨w.heap.size, 4, none⟩ = some (.int .i64 c.count) := by rw [← hW]; simp [go_sem]
 have q5 : W.cell? ⟨w.heap.size, 5, none⟩ = some (.slice ae ne ce) := by rw [← hW]; simp [go_sem]
 have q6 : W.cell? ⟨w.heap.size, 6, none⟩ = some (.slice a1 n1 c1) := by rw [← hW]; simp [go_sem]
 have q7 : W.cell? ⟨w.heap.size, 7, none⟩ = some (.slice a2 n2 c2) := by rw [← hW]; simp [go_sem]
 have HVE : Hid (PartsV W P (.slice ae ne ce) c.parts) := partsV_below hve hBB
 have HR1 : Hid (RulesV n W P (.slice a1 n1 c1) l1) := rulesV_below hr1 hBB
 have HR2 : Hid (RulesV n W P (.slice a2 n2 c2) l2) := rulesV_below hr2 hBB
 have hra := hSW.range hs.len
 have HSW : Hid (StateAt W b S s) := hSW
 have HBW : Hid (Below w.heap.size w W) := hBB
 have HS : Hid (StOk s) := hs
 have HC : Hid (CoreOk c) := hc
 have H1 : Hid (TreeOk n l1) := h1
 have H2 : Hid (TreeOk n l2) := h2
 have M1 : Hid (NumsOk n l1) := m1
 have M2 : Hid (NumsOk n l2) := m2
 have HP : Hid (∀ k, P k → k < b) := hP
 have HSB : Hid (∀ k, S k → b < k) := hSb
 have HPN : Hid (∀ p ∈ c.parts, PtNum p) := hp
 have hu := Tryz.underlying102
 have hi : (Tryz.prog.info? 102).map (fun i => i.size) = some (vlCells s.1).length := by rw [infoVals, vlCells_len, hs.len]
 have hltW : w.heap.size < W.heap.size := by omega
 have hblW : b < W.heap.size := by omega
 have hne : ¬ w.heap.size = W.heap.size := by omega
 have hne2 : ¬ b = W.heap.size := by omega
 have HSV : Hid (∀ V : World, V.heap[b]? = W.heap[b]? → V.heap[w.heap.size]? = W.heap[w.heap.size]? → V.rangeAt b 0 (vlCells s.1) ∧ V.cell? ⟨w.heap.size, 5, none⟩ = some (.slice ae ne ce)) := fun V e1 e2 => held_of hra q5 e1 e2
 generalize hx : valueV s.1 c.parts = x
 have HX : Hid (valueV s.1 c.parts = x) := hx
 generalize hres : doT (doF n) s (c, l1, l2) = res at *
 have HRES : Hid (doT (doF n) s (c, l1, l2) = res) := hres
 have hVO : VlOk x := by rw [← hx]; exact valueV_ok hs.ok hp
 clear hve hr1 hr2 hS hs hc h1 h2 hp m1 m2 hP hSb hSW hBB hW hx hres hWs
 obtain ⟨n0, n1'⟩ := HC.out.name (.inr hk)
 have HE : Hid ((s.1.set c.name.toNat x, s.2 ++ [⟨1, c.place, c.label, x⟩]) = res) := by have := HRES.out; show _ = _; rw [← this]; unfold doT; simp [hk, HX.out]
 clear HRES
 have hlen : s.2.length ≤ 100000 := by omega
 have HK : Hid (c.kind = 1) := hk
 have hk1 : (c.kind == 0) = false := by simp [hk]
 have hk2 : (c.kind == 1) = true := by simp [hk]
 clear hk
 generalize hnm : c.name.toNat = nn at *
 have hnn : nn < 26 := by omega
 have hnm2 : c.name = (nn : Int) := by omega
 rw [hnm2] at q2
 have HNM : Hid (c.name = (nn : Int)) := hnm2
 clear hnm hnm2 n0 n1'
 go_enter Tryz.func101, Tryz.ntmps101
 go_upto_region 1 with fail
 rw [HWe.out]
 go_upto_region 6 with fail
 go_cut [5] from 4 to 75 (fun y wx => ∃ g4, y = .pointer (some ⟨g4, 0, none⟩) ∧ Below W.heap.size W wx ∧ wx.cell? ⟨g4, 0, none⟩ = some (.int .i64 x.num) ∧ wx.cell? ⟨g4, 1, none⟩ = some (.int .i64 x.fault) ∧ W.heap.size ≤ g4)
 case first =>
  go_region_held3 (fun w' => w'.rangeAt b 0 (vlCells s.1) ∧ w'.cell? ⟨w.heap.size, 5, none⟩ = some (.slice ae ne ce)) (first | exact HSV.out _ rfl rfl | exact HSV.out _ (hb5.block _ hblW) (hb5.block _ hltW) | exact HSV.out _ ((Below.heap_alloc _ _ _ (Nat.lt_of_lt_of_le hblW hb5.size)).trans (hb5.block _ hblW)) ((Below.heap_alloc _ _ _ (Nat.lt_of_lt_of_le hltW hb5.size)).trans (hb5.block _ hltW)) | exact HSV.out _ (Below.heap_alloc _ _ _ hblW) (Below.heap_alloc _ _ _ hltW) | exact HSV.out _ ((hb5.block _ (by simp; omega)).trans (Below.heap_alloc _ _ _ hblW)) ((hb5.block _ (by simp; omega)).trans (Below.heap_alloc _ _ _ hltW)) | exact HSV.out _ (((Below.heap_setCell _ _ _ _ (by simp only; omega)).trans (Below.heap_setCell _ _ _ _ (by simp only; omega))).trans ((hb5.block _ (by simp; omega)).trans (Below.heap_alloc _ _ _ hblW))) (((Below.heap_setCell _ _ _ _ (by simp only; omega)).trans (Below.heap_setCell _ _ _ _ (by simp only; omega))).trans ((hb5.block _ (by simp; omega)).trans (Below.heap_alloc _ _ _ hltW)))) ((go_at_call 135; refine (valueOf_any c.parts s.1 P _ _ HS.out.len HS.out.ok HC.out.few HC.out.parts HPN.out (partsV_below HVE.out (by first | exact (Below.refl _ _).drew | exact ((Below.refl _ _).alloc (Nat.le_refl _) _).drew))).mono ?_; rintro x1 w5 ⟨rfl, hb5⟩; rw [HX.out]; (first | (have zz := res_drew (W := W) (t := 59) hb5; obtain ⟨z0, z1, zf, zb⟩ := zz) | skip)))
  all_goals (go_wp2_with fail; go_meet)
  ·refine ⟨w5.heap.size, rfl, ?_, by simp [go_sem], by simp [go_sem], (below_undrew hb5).size⟩
   exact (below_undrew hb5).alloc (below_undrew hb5).size _
  ·exact ⟨W.heap.size, rfl, (zb.setCell (Nat.le_refl _) _).setCell (Nat.le_refl _) _, by simp [go_sem, z0, z1], by simp [go_sem, z0, z1], Nat.le_refl _⟩
 case rest =>
  obtain ⟨g4, rfl, hbx, y0, y1, hg4⟩ := hcut
  have hSX : StateAt wc b S s := HSW.out.keep hbx (Nat.le_refl _)
  have HBX : Hid (Below w.heap.size w wc) := HBW.out.trans (hbx.mono (by omega))
  rw [← hbx.cell (p := ⟨w.heap.size, 0, none⟩) hltW] at q0
  rw [← hbx.cell (p := ⟨w.heap.size, 1, none⟩) hltW] at q1
  rw [← hbx.cell (p := ⟨w.heap.size, 2, none⟩) hltW] at q2
  rw [← hbx.cell (p := ⟨w.heap.size, 3, none⟩) hltW] at q3
  rw [← hbx.cell (p := ⟨w.heap.size, 4, none⟩) hltW] at q4
  rw [← hbx.cell (p := ⟨w.heap.size, 5, none⟩) hltW] at q5
  rw [← hbx.cell (p := ⟨w.heap.size, 6, none⟩) hltW] at q6
  rw [← hbx.cell (p := ⟨w.heap.size, 7, none⟩) hltW] at q7
  clear hbx HSW HR1 HR2 HBW HVE hra hu hi HSV
  obtain ⟨e0, e1⟩ := hSX.cell nn hnn
  have fz := hSX.fz
  have HSX : Hid (StateAt wc b S s) := hSX
  have hbw : ¬ b = w.heap.size := by omega
  have hbw2 : ¬ w.heap.size = b := by omega
  have hbg : ¬ b = g4 := by omega
  have hbg2 : ¬ g4 = b := by omega
  have HSV2 : Hid (StateAt ((wc.setCell ⟨b, nn * 2, none⟩ (.int .i64 x.num)).setCell ⟨b, nn * 2 + 1, none⟩ (.int .i64 x.fault)).drew b S (s.1.set nn x, s.2)) := (hSX.set HS.out.len nn hnn x).drew
  have HBV : Hid (Onto b S w ((wc.setCell ⟨b, nn * 2, none⟩ (.int .i64 x.num)).setCell ⟨b, nn * 2 + 1, none⟩ (.int .i64 x.fault)).drew) := (((Onto.of_below HBX.out).setCell _ _).setCell _ _).drew
  clear hSX
  go_wp2_with fail
  go_region
  go_wp2_with fail
  refine (leave_any b (s.1.set nn x, s.2) 1 ⟨c.kind, c.place, nn, c.label, c.count, c.parts⟩ _ _ _ x _ S HSV2.out (by simpa using hlen)).mono ?_
  rintro e w6 ⟨rfl, hs6⟩
  go_wp2_with fail
  go_end0
  rw [← HE.out]
  exact ⟨rfl, StepAt.trans ⟨HSV2.out.weak (fun k hk _ _ => .inl hk), HBV.out⟩ (hs6.more (fun k hk => .inl hk))⟩
set_option maxRecDepth 100000 in
set_option maxHeartbeats 2000000 in
theorem do_tell (n : Nat) (b : Nat) (S : Nat → Prop) (s : SR) (q : Core × List (RT n) × List (RT n)) (P : Nat → Prop) (ve v1 v2 : Value) (w : World) (hc : CoreOk q.1) (h1 : TreeOk n q.2.1) (h2 : TreeOk n q.2.2) (hp : ∀ p ∈ q.1.parts, PtNum p) (m1 : NumsOk n q.2.1) (m2 : NumsOk n q.2.2) (hs : StOk s)
  (hw : s.2.length + workT (workS n) q ≤ 100000) (hS : StateAt w b S s) (hve : PartsV w P ve q.1.parts) (hr1 : RulesV n w P v1 q.2.1) (hr2 : RulesV n w P v2 q.2.2) (hP : ∀ k, P k → k < b) (hSb : ∀ k, S k → b < k) (hk : q.1.kind = 2) :
  Calls Tryz.prog 101 #[.pointer (some ⟨b, 0, none⟩), .agg #[.int .i64 q.1.kind, .int .i64 q.1.place, .int .i64 q.1.name, .int .i64 q.1.label, .int .i64 q.1.count, ve, v1, v2]] w fun e w' => e = .returned (.tuple #[]) ∧ StepAt b S w w' (doT (doF n) s q) := by
 obtain ⟨c, l1, l2⟩ := q
 simp only at *
 have hlw := hS.lt
 obtain ⟨ae, ne, ce, hvee⟩ : ∃ aa nn cc, ve = .slice aa nn cc := by
  rcases Joins.ownsRow_forms hve.1 with ⟨rfl, _⟩ | ⟨g, cap, rfl⟩ <;> exact ⟨_, _, _, rfl⟩
 subst hvee
 obtain ⟨a1, n1, c1, hv1⟩ := rulesV_form hr1
 obtain ⟨a2, n2, c2, hv2⟩ := rulesV_form hr2
 have hEV : v1 = .slice a1 n1 c1 ∧ v2 = .slice a2 n2 c2 := ⟨hv1, hv2⟩
 clear hv1 hv2
 obtain ⟨rfl, rfl⟩ := hEV
 generalize hW : w.alloc (.cells #[.int .i64 c.kind, .int .i64 c.place, .int .i64 c.name, .int .i64 c.label, .int .i64 c.count, .slice ae ne ce, .slice a1 n1 c1, .slice a2 n2 c2] 149) = W
 have HWe : Hid _ := hW
 have hBB : Below w.heap.size w W := by rw [← hW]; exact (Below.refl _ _).alloc (Nat.le_refl _) _
 have hSW : StateAt W b S s := hS.keep hBB (Nat.le_refl _)
 have hWs : W.heap.size = w.heap.size + 1 := by rw [← hW]; simp
 have q0 : W.cell? ⟨w.heap.size, 0, none⟩ = some (.int .i64 c.kind) := by rw [← hW]; simp [go_sem]
 have q1 : W.cell? ⟨w.heap.size, 1, none⟩ = some (.int .i64 c.place) := by rw [← hW]; simp [go_sem]
 have q2 : W.cell? ⟨w.heap.size, 2, none⟩ = some (.int .i64 c.name) := by rw [← hW]; simp [go_sem]
 have q3 : W.cell? ⟨w.heap.size, 3, none⟩ = some (.int .i64 c.label) := by rw [← hW]; simp [go_sem]
 have q4 : W.cell? ⟨w.heap.size, 4, none⟩ = some (.int .i64 c.count) := by rw [← hW]; simp [go_sem]
 have q5 : W.cell? ⟨w.heap.size, 5, none⟩ = some (.slice ae ne ce) := by rw [← hW]; simp [go_sem]
 have q6 : W.cell? ⟨w.heap.size, 6, none⟩ = some (.slice a1 n1 c1) := by rw [← hW]; simp [go_sem]
 have q7 : W.cell? ⟨w.heap.size, 7, none⟩ = some (.slice a2 n2 c2) := by rw [← hW]; simp [go_sem]
 have HVE : Hid (PartsV W P (.slice ae ne ce) c.parts) := partsV_below hve hBB
 have HR1 : Hid (RulesV n W P (.slice a1 n1 c1) l1) := rulesV_below hr1 hBB
 have HR2 : Hid (RulesV n W P (.slice a2 n2 c2) l2) := rulesV_below hr2 hBB
 have hra := hSW.range hs.len
 have HSW : Hid (StateAt W b S s) := hSW
 have HBW : Hid (Below w.heap.size w W) := hBB
 have HS : Hid (StOk s) := hs
 have HC : Hid (CoreOk c) := hc
 have H1 : Hid (TreeOk n l1) := h1
 have H2 : Hid (TreeOk n l2) := h2
 have M1 : Hid (NumsOk n l1) := m1
 have M2 : Hid (NumsOk n l2) := m2
 have HP : Hid (∀ k, P k → k < b) := hP
 have HSB : Hid (∀ k, S k → b < k) := hSb
 have HPN : Hid (∀ p ∈ c.parts, PtNum p) := hp
 have hu := Tryz.underlying102
 have hi : (Tryz.prog.info? 102).map (fun i => i.size) = some (vlCells s.1).length := by rw [infoVals, vlCells_len, hs.len]
 have hltW : w.heap.size < W.heap.size := by omega
 have hblW : b < W.heap.size := by omega
 have hne : ¬ w.heap.size = W.heap.size := by omega
 have hne2 : ¬ b = W.heap.size := by omega
 have HSV : Hid (∀ V : World, V.heap[b]? = W.heap[b]? → V.heap[w.heap.size]? = W.heap[w.heap.size]? → V.rangeAt b 0 (vlCells s.1) ∧ V.cell? ⟨w.heap.size, 5, none⟩ = some (.slice ae ne ce)) := fun V e1 e2 => held_of hra q5 e1 e2
 generalize hx : valueV s.1 c.parts = x
 have HX : Hid (valueV s.1 c.parts = x) := hx
 generalize hres : doT (doF n) s (c, l1, l2) = res at *
 have HRES : Hid (doT (doF n) s (c, l1, l2) = res) := hres
 have hVO : VlOk x := by rw [← hx]; exact valueV_ok hs.ok hp
 clear hve hr1 hr2 hS hs hc h1 h2 hp m1 m2 hP hSb hSW hBB hW hx hres hWs
 have HE : Hid ((s.1, s.2 ++ [⟨0, c.place, c.label, x⟩]) = res) := by have := HRES.out; show _ = _; rw [← this]; unfold doT; simp [hk, HX.out]
 clear HRES
 have hlen : s.2.length ≤ 100000 := by omega
 have hk1 : (c.kind == 0) = false := by simp [hk]
 have hk2 : (c.kind == 1) = false := by simp [hk]
 have hk3 : (c.kind == 2) = true := by simp [hk]
 clear hk
 go_enter Tryz.func101, Tryz.ntmps101
 go_upto_region 1 with fail
 rw [HWe.out]
 go_upto_region 10 with fail
 go_cut [6] from 4 to 75 (fun y wx => ∃ g4, y = .pointer (some ⟨g4, 0, none⟩) ∧ Below W.heap.size W wx ∧ wx.cell? ⟨g4, 0, none⟩ = some (.int .i64 x.num) ∧ wx.cell? ⟨g4, 1, none⟩ = some (.int .i64 x.fault) ∧ W.heap.size ≤ g4)
 case first =>
  go_region_held3 (fun w' => w'.rangeAt b 0 (vlCells s.1) ∧ w'.cell? ⟨w.heap.size, 5, none⟩ = some (.slice ae ne ce)) (first | exact HSV.out _ rfl rfl | exact HSV.out _ (hb5.block _ hblW) (hb5.block _ hltW) | exact HSV.out _ ((Below.heap_alloc _ _ _ (Nat.lt_of_lt_of_le hblW hb5.size)).trans (hb5.block _ hblW)) ((Below.heap_alloc _ _ _ (Nat.lt_of_lt_of_le hltW hb5.size)).trans (hb5.block _ hltW)) | exact HSV.out _ (Below.heap_alloc _ _ _ hblW) (Below.heap_alloc _ _ _ hltW) | exact HSV.out _ ((hb5.block _ (by simp; omega)).trans (Below.heap_alloc _ _ _ hblW)) ((hb5.block _ (by simp; omega)).trans (Below.heap_alloc _ _ _ hltW)) | exact HSV.out _ (((Below.heap_setCell _ _ _ _ (by simp only; omega)).trans (Below.heap_setCell _ _ _ _ (by simp only; omega))).trans ((hb5.block _ (by simp; omega)).trans (Below.heap_alloc _ _ _ hblW))) (((Below.heap_setCell _ _ _ _ (by simp only; omega)).trans (Below.heap_setCell _ _ _ _ (by simp only; omega))).trans ((hb5.block _ (by simp; omega)).trans (Below.heap_alloc _ _ _ hltW)))) ((go_at_call 135; refine (valueOf_any c.parts s.1 P _ _ HS.out.len HS.out.ok HC.out.few HC.out.parts HPN.out (partsV_below HVE.out (by first | exact (Below.refl _ _).drew | exact ((Below.refl _ _).alloc (Nat.le_refl _) _).drew))).mono ?_; rintro x1 w5 ⟨rfl, hb5⟩; rw [HX.out]; (first | (have zz := res_drew (W := W) (t := 59) hb5; obtain ⟨z0, z1, zf, zb⟩ := zz) | skip)))
  all_goals (go_wp2_with fail; go_meet)
  ·refine ⟨w5.heap.size, rfl, ?_, by simp [go_sem], by simp [go_sem], (below_undrew hb5).size⟩
   exact (below_undrew hb5).alloc (below_undrew hb5).size _
  ·exact ⟨W.heap.size, rfl, (zb.setCell (Nat.le_refl _) _).setCell (Nat.le_refl _) _, by simp [go_sem, z0, z1], by simp [go_sem, z0, z1], Nat.le_refl _⟩
 case rest =>
  obtain ⟨g4, rfl, hbx, y0, y1, hg4⟩ := hcut
  have hSX : StateAt wc b S s := HSW.out.keep hbx (Nat.le_refl _)
  have HBX : Hid (Below w.heap.size w wc) := HBW.out.trans (hbx.mono (by omega))
  rw [← hbx.cell (p := ⟨w.heap.size, 0, none⟩) hltW] at q0
  rw [← hbx.cell (p := ⟨w.heap.size, 1, none⟩) hltW] at q1
  rw [← hbx.cell (p := ⟨w.heap.size, 2, none⟩) hltW] at q2
  rw [← hbx.cell (p := ⟨w.heap.size, 3, none⟩) hltW] at q3
  rw [← hbx.cell (p := ⟨w.heap.size, 4, none⟩) hltW] at q4
  rw [← hbx.cell (p := ⟨w.heap.size, 5, none⟩) hltW] at q5
  rw [← hbx.cell (p := ⟨w.heap.size, 6, none⟩) hltW] at q6
  rw [← hbx.cell (p := ⟨w.heap.size, 7, none⟩) hltW] at q7
  clear hbx HSW HR1 HR2 HBW HVE hra hu hi HSV
  have HSX : Hid (StateAt wc b S s) := hSX
  clear hSX
  go_wp2_with fail
  refine (leave_any b s 0 c _ _ _ x _ S HSX.out hlen).mono ?_
  rintro e w6 ⟨rfl, hs6⟩
  go_wp2_with fail
  go_end0
  rw [← HE.out]
  exact ⟨rfl, hs6.pre HBX.out⟩
end Go.Proofs.YtdgmoiflahoihaaGreatDoor
namespace Go.Proofs.YtdgmoiflahoihaaGreatDoor
open Go.RowKit
set_option linter.unusedSimpArgs false
set_option linter.unusedVariables false
set_option maxRecDepth 100000 in
set_option maxHeartbeats 2000000 in
theorem do_cond (n : Nat) (ih : DoCalls n) (b : Nat) (S : Nat → Prop) (s : SR) (q : Core × List (RT n) × List (RT n)) (P : Nat → Prop) (ve v1 v2 : Value) (w : World) (hc : CoreOk q.1) (h1 : TreeOk n q.2.1) (h2 : TreeOk n q.2.2) (hp : ∀ p ∈ q.1.parts, PtNum p) (m1 : NumsOk n q.2.1) (m2 : NumsOk n q.2.2) (hs : StOk s)
  (hw : s.2.length + workT (workS n) q ≤ 100000) (hS : StateAt w b S s) (hve : PartsV w P ve q.1.parts) (hr1 : RulesV n w P v1 q.2.1) (hr2 : RulesV n w P v2 q.2.2) (hP : ∀ k, P k → k < b) (hSb : ∀ k, S k → b < k) (hk : q.1.kind = 3) :
  Calls Tryz.prog 101 #[.pointer (some ⟨b, 0, none⟩), .agg #[.int .i64 q.1.kind, .int .i64 q.1.place, .int .i64 q.1.name, .int .i64 q.1.label, .int .i64 q.1.count, ve, v1, v2]] w fun e w' => e = .returned (.tuple #[]) ∧ StepAt b S w w' (doT (doF n) s q) := by
 have IH : Hid (DoCalls n) := ih
 clear ih
 obtain ⟨c, l1, l2⟩ := q
 simp only at *
 have hlw := hS.lt
 obtain ⟨ae, ne, ce, hvee⟩ : ∃ aa nn cc, ve = .slice aa nn cc := by
  rcases Joins.ownsRow_forms hve.1 with ⟨rfl, _⟩ | ⟨g, cap, rfl⟩ <;> exact ⟨_, _, _, rfl⟩
 subst hvee
 obtain ⟨a1, n1, c1, hv1⟩ := rulesV_form hr1
 obtain ⟨a2, n2, c2, hv2⟩ := rulesV_form hr2
 have hEV : v1 = .slice a1 n1 c1 ∧ v2 = .slice a2 n2 c2 := ⟨hv1, hv2⟩
 clear hv1 hv2
 obtain ⟨rfl, rfl⟩ := hEV
 generalize hW : w.alloc (.cells #[.int .i64 c.kind, .int .i64 c.place, .int .i64 c.name, .int .i64 c.label, .int .i64 c.count, .slice ae ne ce, .slice a1 n1 c1, .slice a2 n2 c2] 149) = W
 have HWe : Hid _ := hW
 have hBB : Below w.heap.size w W := by rw [← hW]; exact (Below.refl _ _).alloc (Nat.le_refl _) _
 have hSW : StateAt W b S s := hS.keep hBB (Nat.le_refl _)
 have hWs : W.heap.size = w.heap.size + 1 := by rw [← hW]; simp
 have q0 : W.cell? ⟨w.heap.size, 0, none⟩ = some (.int .i64 c.kind) := by rw [← hW]; simp [go_sem]
 have q1 : W.cell? ⟨w.heap.size, 1, none⟩ = some (.int .i64 c.place) := by rw [← hW]; simp [go_sem]
 have q2 : W.cell? ⟨w.heap.size, 2, none⟩ = some (.int .i64 c.name) := by rw [← hW]; simp [go_sem]
 have q3 : W.cell? ⟨w.heap.size, 3, none⟩ = some (.int .i64 c.label) := by rw [← hW]; simp [go_sem]
 have q4 : W.cell? ⟨w.heap.size, 4, none⟩ = some (.int .i64 c.count) := by rw [← hW]; simp [go_sem]
 have q5 : W.cell? ⟨w.heap.size, 5, none⟩ = some (.slice ae ne ce) := by rw [← hW]; simp [go_sem]
 have q6 : W.cell? ⟨w.heap.size, 6, none⟩ = some (.slice a1 n1 c1) := by rw [← hW]; simp [go_sem]
 have q7 : W.cell? ⟨w.heap.size, 7, none⟩ = some (.slice a2 n2 c2) := by rw [← hW]; simp [go_sem]
 have HVE : Hid (PartsV W P (.slice ae ne ce) c.parts) := partsV_below hve hBB
 have HR1 : Hid (RulesV n W P (.slice a1 n1 c1) l1) := rulesV_below hr1 hBB
 have HR2 : Hid (RulesV n W P (.slice a2 n2 c2) l2) := rulesV_below hr2 hBB
 have HSW : Hid (StateAt W b S s) := hSW
 have HSWL : Hid (StateAt W b (fun k => S k ∧ k < w.heap.size) s) := (hS.weak (fun k hk _ hl => ⟨hk, hl⟩)).keep hBB (Nat.le_refl _)
 have HBW : Hid (Below w.heap.size w W) := hBB
 have HS : Hid (StOk s) := hs
 have HC : Hid (CoreOk c) := hc
 have H1 : Hid (TreeOk n l1) := h1
 have H2 : Hid (TreeOk n l2) := h2
 have M1 : Hid (NumsOk n l1) := m1
 have M2 : Hid (NumsOk n l2) := m2
 have HP : Hid (∀ k, P k → k < b) := hP
 have HSB : Hid (∀ k, S k → b < k) := hSb
 have HPN : Hid (∀ p ∈ c.parts, PtNum p) := hp
 have hltW : w.heap.size < W.heap.size := by omega
 have hblW : b < W.heap.size := by omega
 have hne : ¬ w.heap.size = W.heap.size := by omega
 have hne2 : ¬ b = W.heap.size := by omega
 generalize hx : valueV s.1 c.parts = x
 have HX : Hid (valueV s.1 c.parts = x) := hx
 generalize hres : doT (doF n) s (c, l1, l2) = res at *
 have HRES : Hid (doT (doF n) s (c, l1, l2) = res) := hres
 have hVO : VlOk x := by rw [← hx]; exact valueV_ok hs.ok hp
 clear hve hr1 hr2 hS hs hc h1 h2 hp m1 m2 hP hSb hSW hBB hW hx hres hWs
 have hk1 : (c.kind == 0) = false := by simp [hk]
 have hk2 : (c.kind == 1) = false := by simp [hk]
 have hk3 : (c.kind == 2) = false := by simp [hk]
 have hk4 : (c.kind == 3) = true := by simp [hk]
 have HK : Hid (c.kind = 3) := hk
 clear hk
 go_enter Tryz.func101, Tryz.ntmps101
 go_upto_region 1 with fail
 rw [HWe.out]
 go_wp2_with fail
 refine (choose_step n IH.out b S s (c, l1, l2) P _ _ _ _ HK.out HC.out H1.out H2.out HPN.out M1.out M2.out HS.out hw HSW.out HVE.out HR1.out HR2.out HP.out HSB.out).mono ?_
 rw [HRES.out]
 rintro e w6 ⟨rfl, hs6⟩
 go_wp2_with fail
 go_end0
 exact ⟨rfl, hs6.pre HBW.out⟩
set_option maxRecDepth 100000 in
set_option maxHeartbeats 2000000 in
theorem do_loop (n : Nat) (ih : DoCalls n) (b : Nat) (S : Nat → Prop) (s : SR) (q : Core × List (RT n) × List (RT n)) (P : Nat → Prop) (ve v1 v2 : Value) (w : World) (hc : CoreOk q.1) (h1 : TreeOk n q.2.1) (h2 : TreeOk n q.2.2) (hp : ∀ p ∈ q.1.parts, PtNum p) (m1 : NumsOk n q.2.1) (m2 : NumsOk n q.2.2) (hs : StOk s)
  (hw : s.2.length + workT (workS n) q ≤ 100000) (hS : StateAt w b S s) (hve : PartsV w P ve q.1.parts) (hr1 : RulesV n w P v1 q.2.1) (hr2 : RulesV n w P v2 q.2.2) (hP : ∀ k, P k → k < b) (hSb : ∀ k, S k → b < k) (hk : q.1.kind = 4) :
  Calls Tryz.prog 101 #[.pointer (some ⟨b, 0, none⟩), .agg #[.int .i64 q.1.kind, .int .i64 q.1.place, .int .i64 q.1.name, .int .i64 q.1.label, .int .i64 q.1.count, ve, v1, v2]] w fun e w' => e = .returned (.tuple #[]) ∧ StepAt b S w w' (doT (doF n) s q) := by
 have IH : Hid (DoCalls n) := ih
 clear ih
 obtain ⟨c, l1, l2⟩ := q
 simp only at *
 have hlw := hS.lt
 obtain ⟨ae, ne, ce, hvee⟩ : ∃ aa nn cc, ve = .slice aa nn cc := by
  rcases Joins.ownsRow_forms hve.1 with ⟨rfl, _⟩ | ⟨g, cap, rfl⟩ <;> exact ⟨_, _, _, rfl⟩
 subst hvee
 obtain ⟨a1, n1, c1, hv1⟩ := rulesV_form hr1
 obtain ⟨a2, n2, c2, hv2⟩ := rulesV_form hr2
 have hEV : v1 = .slice a1 n1 c1 ∧ v2 = .slice a2 n2 c2 := ⟨hv1, hv2⟩
 clear hv1 hv2
 obtain ⟨rfl, rfl⟩ := hEV
 generalize hW : w.alloc (.cells #[.int .i64 c.kind, .int .i64 c.place, .int .i64 c.name, .int .i64 c.label, .int .i64 c.count, .slice ae ne ce, .slice a1 n1 c1, .slice a2 n2 c2] 149) = W
 have HWe : Hid _ := hW
 have hBB : Below w.heap.size w W := by rw [← hW]; exact (Below.refl _ _).alloc (Nat.le_refl _) _
 have hSW : StateAt W b S s := hS.keep hBB (Nat.le_refl _)
 have hWs : W.heap.size = w.heap.size + 1 := by rw [← hW]; simp
 have q0 : W.cell? ⟨w.heap.size, 0, none⟩ = some (.int .i64 c.kind) := by rw [← hW]; simp [go_sem]
 have q1 : W.cell? ⟨w.heap.size, 1, none⟩ = some (.int .i64 c.place) := by rw [← hW]; simp [go_sem]
 have q2 : W.cell? ⟨w.heap.size, 2, none⟩ = some (.int .i64 c.name) := by rw [← hW]; simp [go_sem]
 have q3 : W.cell? ⟨w.heap.size, 3, none⟩ = some (.int .i64 c.label) := by rw [← hW]; simp [go_sem]
 have q4 : W.cell? ⟨w.heap.size, 4, none⟩ = some (.int .i64 c.count) := by rw [← hW]; simp [go_sem]
 have q5 : W.cell? ⟨w.heap.size, 5, none⟩ = some (.slice ae ne ce) := by rw [← hW]; simp [go_sem]
 have q6 : W.cell? ⟨w.heap.size, 6, none⟩ = some (.slice a1 n1 c1) := by rw [← hW]; simp [go_sem]
 have q7 : W.cell? ⟨w.heap.size, 7, none⟩ = some (.slice a2 n2 c2) := by rw [← hW]; simp [go_sem]
 have HVE : Hid (PartsV W P (.slice ae ne ce) c.parts) := partsV_below hve hBB
 have HR1 : Hid (RulesV n W P (.slice a1 n1 c1) l1) := rulesV_below hr1 hBB
 have HR2 : Hid (RulesV n W P (.slice a2 n2 c2) l2) := rulesV_below hr2 hBB
 have HSW : Hid (StateAt W b S s) := hSW
 have HSWL : Hid (StateAt W b (fun k => S k ∧ k < w.heap.size) s) := (hS.weak (fun k hk _ hl => ⟨hk, hl⟩)).keep hBB (Nat.le_refl _)
 have HBW : Hid (Below w.heap.size w W) := hBB
 have HS : Hid (StOk s) := hs
 have HC : Hid (CoreOk c) := hc
 have H1 : Hid (TreeOk n l1) := h1
 have H2 : Hid (TreeOk n l2) := h2
 have M1 : Hid (NumsOk n l1) := m1
 have M2 : Hid (NumsOk n l2) := m2
 have HP : Hid (∀ k, P k → k < b) := hP
 have HSB : Hid (∀ k, S k → b < k) := hSb
 have HPN : Hid (∀ p ∈ c.parts, PtNum p) := hp
 have hltW : w.heap.size < W.heap.size := by omega
 have hblW : b < W.heap.size := by omega
 have hne : ¬ w.heap.size = W.heap.size := by omega
 have hne2 : ¬ b = W.heap.size := by omega
 generalize hx : valueV s.1 c.parts = x
 have HX : Hid (valueV s.1 c.parts = x) := hx
 generalize hres : doT (doF n) s (c, l1, l2) = res at *
 have HRES : Hid (doT (doF n) s (c, l1, l2) = res) := hres
 have hVO : VlOk x := by rw [← hx]; exact valueV_ok hs.ok hp
 clear hve hr1 hr2 hS hs hc h1 h2 hp m1 m2 hP hSb hSW hBB hW hx hres hWs
 have hk1 : (c.kind == 0) = false := by simp [hk]
 have hk2 : (c.kind == 1) = false := by simp [hk]
 have hk3 : (c.kind == 2) = false := by simp [hk]
 have hk4 : (c.kind == 3) = false := by simp [hk]
 have hk5 : (c.kind == 4) = true := by simp [hk]
 have hwk : workT (workS n) (c, l1, l2) = 1 + c.count.toNat * (1 + workS n l1) := by unfold workT; rw [if_pos hk]
 rw [hwk] at hw
 have HE : Hid (repS (fun s => doF n s l1) c.count.toNat s = res) := by have := HRES.out; show _ = _; rw [← this]; unfold doT; simp [hk]
 clear hwk hk HRES
 obtain ⟨c0, c9⟩ := HC.out.count
 obtain ⟨cnt, hcnt⟩ : ∃ cnt : Nat, c.count = cnt := ⟨c.count.toNat, by omega⟩
 rw [hcnt, Int.toNat_natCast] at hw HE
 rw [hcnt] at q4
 have hc9 : cnt ≤ 9 := by omega
 have HCN : Hid (c.count = (cnt : Int)) := hcnt
 clear hcnt c0 c9
 have hstep0 : StepAt b (fun k => S k ∧ k < w.heap.size) W W s := StepAt.still HSWL.out (Below.refl _ _)
 have HM : Hid (s.2.length + cnt * (1 + workS n l1) ≤ 100000) := by show _ ≤ _; omega
 clear hw
 go_enter Tryz.func101, Tryz.ntmps101
 go_upto_region 1 with fail
 rw [HWe.out]
 go_wp2_with fail
 go_loopw [7] (fun y w' => ∃ (k : Nat) (sk : SR), y = .int .i64 k ∧ k ≤ cnt ∧ Hid (StOk sk) ∧ Hid (sk.2.length + (cnt - k) * (1 + workS n l1) ≤ 100000) ∧ Hid (StepAt b (fun k => S k ∧ k < w.heap.size) W w' sk) ∧ Hid (w'.heap[w.heap.size]? = W.heap[w.heap.size]?) ∧ Hid (RulesV n w' P (.slice a1 n1 c1) l1) ∧ Hid (repS (fun s => doF n s l1) (cnt - k) sk = res)) (fun y _ => cnt - (intOf y).toNat)
 case atStart => exact ⟨0, s, rfl, by omega, HS, HM, hstep0, rfl, HR1, HE⟩
 case round =>
  obtain ⟨k, sk, rfl, hk, HSK, HMK, HST, HBX, HRX, HEK⟩ := hrel
  have g4 : wr.cell? ⟨w.heap.size, 4, none⟩ = some (.int .i64 cnt) := (World.cell?_of_block (a := ⟨w.heap.size, 4, none⟩) HBX.out).trans q4
  have g6 : wr.cell? ⟨w.heap.size, 6, none⟩ = some (.slice a1 n1 c1) := (World.cell?_of_block (a := ⟨w.heap.size, 6, none⟩) HBX.out).trans q6
  clear q0 q1 q2 q3 q4 q5 q6 q7
  by_cases hlt : k < cnt
  ·have tk : decide ((k : Int) < (cnt : Int)) = true := by simp; omega
   have hlx : b < wr.heap.size := HST.out.state.lt
   have hsz : W.heap.size ≤ wr.heap.size := HST.out.onto.size
   have hSb2 : ∀ k, ((S k ∧ k < w.heap.size) ∨ W.heap.size ≤ k) → b < k := fun k hk => by
    rcases hk with hk | hk
    ·exact HSB.out k hk.1
    ·omega
   have HSB2 : Hid _ := hSb2
   clear hSb2
   have HMN : Hid (sk.2.length + workS n l1 + (cnt - (k + 1)) * (1 + workS n l1) ≤ 100000) := by
    have h1 := HMK.out
    have h2 : (cnt - k) * (1 + workS n l1) = (cnt - (k + 1)) * (1 + workS n l1) + (1 + workS n l1) := by
     rw [show cnt - k = (cnt - (k + 1)) + 1 by omega, Nat.succ_mul]
    show _ ≤ _
    omega
   have HSN : Hid _ := doF_ok n l1 sk M1.out H1.out HSK.out
   have HEN : Hid (repS (fun s => doF n s l1) (cnt - (k + 1)) (doF n sk l1) = res) := by
    have := HEK.out
    rw [show cnt - k = (cnt - (k + 1)) + 1 by omega] at this
    exact this
   go_wp2_with fail
   refine (IH.out b (fun k => (S k ∧ k < w.heap.size) ∨ W.heap.size ≤ k) sk l1 P _ _ H1.out M1.out HSK.out (by have := HMN.out; omega) HST.out.state HRX.out HP.out HSB2.out).mono ?_
   rintro e w6 ⟨rfl, hs6⟩
   have HST6 : Hid (StepAt b (fun k => S k ∧ k < w.heap.size) W w6 (doF n sk l1)) := HST.out.trans hs6
   have HBX6 : Hid (w6.heap[w.heap.size]? = W.heap[w.heap.size]?) := (hs6.onto.block w.heap.size (by omega) (by omega) (fun e => by rcases e with e | e; exact absurd e.2 (by omega); omega)).trans HBX.out
   have HRX6 : Hid (RulesV n w6 P (.slice a1 n1 c1) l1) := rulesV_lower HRX.out HP.out (hs6.onto.below hlx HSB2.out)
   clear hs6 g4 g6 HST HBX HRX HSB2
   go_wp2_with fail
   go_roundw
   case rel => exact ⟨k + 1, _, by go_num, by omega, HSN.out.1, by show _ ≤ _; have h1 := HSN.out.2; have h2 := HMN.out; omega, HST6, HBX6, HRX6, HEN⟩
   case measure => simp [intOf]; omega
  ·have tk : decide ((k : Int) < (cnt : Int)) = false := by simp; omega
   have HEN : Hid (sk = res) := by
    have := HEK.out
    rw [show cnt - k = 0 by omega] at this
    exact this
   go_wp2_with fail
   go_end0
   rw [← HEN.out]
   exact ⟨rfl, (HST.out.more (fun k hk => hk.1)).pre HBW.out⟩
end Go.Proofs.YtdgmoiflahoihaaGreatDoor
namespace Go.Proofs.YtdgmoiflahoihaaGreatDoor
open Go.RowKit
set_option linter.unusedSimpArgs false
set_option linter.unusedVariables false
theorem do_step (n : Nat) (ih : DoCalls n) (b : Nat) (S : Nat → Prop) (s : SR) (q : Core × List (RT n) × List (RT n)) (P : Nat → Prop) (ve v1 v2 : Value) (w : World) (hc : CoreOk q.1) (h1 : TreeOk n q.2.1) (h2 : TreeOk n q.2.2) (hp : ∀ p ∈ q.1.parts, PtNum p) (m1 : NumsOk n q.2.1) (m2 : NumsOk n q.2.2) (hs : StOk s)
  (hw : s.2.length + workT (workS n) q ≤ 100000) (hS : StateAt w b S s) (hve : PartsV w P ve q.1.parts) (hr1 : RulesV n w P v1 q.2.1) (hr2 : RulesV n w P v2 q.2.2) (hP : ∀ k, P k → k < b) (hSb : ∀ k, S k → b < k) :
  Calls Tryz.prog 101 #[.pointer (some ⟨b, 0, none⟩), .agg #[.int .i64 q.1.kind, .int .i64 q.1.place, .int .i64 q.1.name, .int .i64 q.1.label, .int .i64 q.1.count, ve, v1, v2]] w fun e w' => e = .returned (.tuple #[]) ∧ StepAt b S w w' (doT (doF n) s q) := by
 obtain ⟨k0, k4⟩ := hc.kind
 by_cases e0 : q.1.kind = 0
 ·exact do_give n b S s q P ve v1 v2 w hc h1 h2 hp m1 m2 hs hw hS hve hr1 hr2 hP hSb e0
 by_cases e1 : q.1.kind = 1
 ·exact do_open n b S s q P ve v1 v2 w hc h1 h2 hp m1 m2 hs hw hS hve hr1 hr2 hP hSb e1
 by_cases e2 : q.1.kind = 2
 ·exact do_tell n b S s q P ve v1 v2 w hc h1 h2 hp m1 m2 hs hw hS hve hr1 hr2 hP hSb e2
 by_cases e3 : q.1.kind = 3
 ·exact do_cond n ih b S s q P ve v1 v2 w hc h1 h2 hp m1 m2 hs hw hS hve hr1 hr2 hP hSb e3
 ·exact do_loop n ih b S s q P ve v1 v2 w hc h1 h2 hp m1 m2 hs hw hS hve hr1 hr2 hP hSb (by omega)
theorem rules_at2 {n : Nat} {w : World} {P : Nat → Prop} {v : Value} {l : List (Core × List (RT n) × List (RT n))} (h : RowsC (fun cs q => RuleC (RulesV n w P) w P cs q) w P v l) :
  ∃ ao g cap, v = .slice ao l.length cap ∧ ∀ i, ∀ hi : i < l.length, ao = some ⟨g, 0, none⟩ ∧ P g ∧ ∃ cs, RuleC (RulesV n w P) w P cs l[i] ∧ ∀ j, j < 8 → w.cell? ⟨g, i * 8 + j, none⟩ = cs[j]? := by
 obtain ⟨ao, g, cap, hv, h2⟩ := rules_at h
 refine ⟨ao, g, cap, hv, fun i hi => ?_⟩
 obtain ⟨h3, _, h4⟩ := h2 i hi
 obtain ⟨xs, _, h6, _⟩ := h
 exact ⟨h3, h6 g (by rw [hv, h3]; rfl), h4⟩
set_option maxRecDepth 100000 in
set_option maxHeartbeats 1000000 in
theorem doAll_zero : DoCalls 0 := by
 intro b S s l P v w ht hn hs hw hS hv hP hSb
 obtain ⟨ao, cap, rfl⟩ : ∃ ao cap, v = .slice ao 0 cap := by
  rcases Joins.ownsRow_forms hv.1 with ⟨rfl, _⟩ | ⟨g, cap, rfl⟩ <;> exact ⟨_, _, rfl⟩
 clear hv
 show Calls _ _ _ _ fun e w' => e = .returned (.tuple #[]) ∧ StepAt b S w w' s
 have HS : Hid (StateAt w b S s) := hS
 clear hS hs hw ht hn
 go_enter Tryz.func68, Tryz.ntmps68
 go_wp2_with fail
 go_loopw [8] (fun x w' => x = .int .i64 0 ∧ w' = w) (fun _ _ => 0)
 case atStart => exact ⟨rfl, rfl⟩
 case round =>
  obtain ⟨rfl, hb⟩ := hrel
  rw [hb]
  go_wp2_with fail
  go_end0
  exact ⟨rfl, StepAt.still HS.out (Below.refl _ _)⟩
theorem doL_cons {α : Type} (rec : SR → List α → SR) (s : SR) (q : Core × List α × List α) (r : List (Core × List α × List α)) : doL rec s (q :: r) = doL rec (doT rec s q) r := rfl
set_option maxRecDepth 100000 in
set_option maxHeartbeats 1000000 in
theorem doAll_step (n : Nat) (ih : DoCalls n) (b : Nat) (S : Nat → Prop) (s : SR) (l : List (Core × List (RT n) × List (RT n))) (P : Nat → Prop) (v : Value) (w : World) (hl : l.length ≤ 1000) (hok : ∀ q ∈ l, CoreOk q.1 ∧ TreeOk n q.2.1 ∧ TreeOk n q.2.2) (hnm : ∀ q ∈ l, (∀ p ∈ q.1.parts, PtNum p) ∧ NumsOk n q.2.1 ∧ NumsOk n q.2.2) (hs : StOk s)
  (hw : s.2.length + workL (workS n) l ≤ 100000) (hS : StateAt w b S s) (hv : RowsC (fun cs q => RuleC (RulesV n w P) w P cs q) w P v l) (hP : ∀ k, P k → k < b) (hSb : ∀ k, S k → b < k) :
  Calls Tryz.prog 68 #[.pointer (some ⟨b, 0, none⟩), v] w fun e w' => e = .returned (.tuple #[]) ∧ StepAt b S w w' (doL (doF n) s l) := by
 obtain ⟨ao, gb, cap, rfl, hcells⟩ := rules_at2 hv
 have hlt0 := hS.lt
 have HOK : Hid _ := hok
 have HNM : Hid _ := hnm
 have HC : Hid _ := hcells
 have IH : Hid (DoCalls n) := ih
 have HS0 : Hid (StOk s) := hs
 have HST0 : Hid (StepAt b S w w s) := StepAt.still hS (Below.refl _ _)
 have HW0 : Hid (s.2.length + workL (workS n) l ≤ 100000) := hw
 have HP : Hid (∀ k, P k → k < b) := hP
 have HSB : Hid (∀ k, S k → b < k) := hSb
 generalize hR : doL (doF n) s l = R at *
 have HR : Hid (doL (doF n) s l = R) := hR
 clear hcells hok hnm ih hR hv hs hw hS hP hSb
 go_enter Tryz.func68, Tryz.ntmps68
 go_wp2_with fail
 go_loopw [8] (fun x w' => ∃ (k : Nat) (sk : SR), x = .int .i64 k ∧ k ≤ l.length ∧ Hid (StOk sk) ∧ Hid (sk.2.length + workL (workS n) (l.drop k) ≤ 100000) ∧ Hid (StepAt b S w w' sk) ∧ Hid (doL (doF n) sk (l.drop k) = R)) (fun x _ => l.length - (intOf x).toNat)
 case atStart => exact ⟨0, s, rfl, by omega, HS0, HW0, HST0, HR⟩
 case round =>
  obtain ⟨k, sk, rfl, hk, HSK, HWK, HST, HL⟩ := hrel
  by_cases hlt : k < l.length
  ·have tk : decide ((k : Int) < (l.length : Int)) = true := by simp; omega
   obtain ⟨e0, hgb, cs, hru, hcs⟩ := HC.out k hlt
   obtain ⟨okc, ok1, ok2⟩ := HOK.out l[k] (List.getElem_mem hlt)
   obtain ⟨nmp, nm1, nm2⟩ := HNM.out l[k] (List.getElem_mem hlt)
   have hstep := HL.out
   have hwk := HWK.out
   rw [List.drop_eq_getElem_cons hlt, doL_cons] at hstep
   rw [List.drop_eq_getElem_cons hlt, workL_cons] at hwk
   have hBl : Below b w wr := HST.out.onto.below hlt0 HSB.out
   generalize hq : l[k] = q at *
   obtain ⟨ve, v1, v2, hcs0, hpe, hr1, hr2⟩ := hru
   subst hcs0
   obtain ⟨ae, ne, ce, hve⟩ : ∃ aa nn cc, ve = .slice aa nn cc := by
    rcases Joins.ownsRow_forms hpe.1 with ⟨rfl, _⟩ | ⟨g, cap, rfl⟩ <;> exact ⟨_, _, _, rfl⟩
   obtain ⟨a1, n1, c1, hv1⟩ := rulesV_form hr1
   obtain ⟨a2, n2, c2, hv2⟩ := rulesV_form hr2
   have hEV : ve = .slice ae ne ce ∧ v1 = .slice a1 n1 c1 ∧ v2 = .slice a2 n2 c2 := ⟨hve, hv1, hv2⟩
   clear hve hv1 hv2
   obtain ⟨rfl, rfl, rfl⟩ := hEV
   have hgbb : gb < b := HP.out gb hgb
   have d : ∀ j, j < 8 → wr.cell? ⟨gb, k * 8 + j, none⟩ = (coreV q.1 ++ [.slice ae ne ce, .slice a1 n1 c1, .slice a2 n2 c2])[j]? := fun j hj => (hBl.cell (p := ⟨gb, k * 8 + j, none⟩) hgbb).trans (hcs j hj)
   have d0 : wr.cell? ⟨gb, k * 8, none⟩ = some (.int .i64 q.1.kind) := d 0 (by omega)
   have d1 : wr.cell? ⟨gb, k * 8 + 1, none⟩ = some (.int .i64 q.1.place) := d 1 (by omega)
   have d2 : wr.cell? ⟨gb, k * 8 + 2, none⟩ = some (.int .i64 q.1.name) := d 2 (by omega)
   have d3 : wr.cell? ⟨gb, k * 8 + 3, none⟩ = some (.int .i64 q.1.label) := d 3 (by omega)
   have d4 : wr.cell? ⟨gb, k * 8 + 4, none⟩ = some (.int .i64 q.1.count) := d 4 (by omega)
   have d5 : wr.cell? ⟨gb, k * 8 + 5, none⟩ = some (.slice ae ne ce) := d 5 (by omega)
   have d6 : wr.cell? ⟨gb, k * 8 + 6, none⟩ = some (.slice a1 n1 c1) := d 6 (by omega)
   have d7 : wr.cell? ⟨gb, k * 8 + 7, none⟩ = some (.slice a2 n2 c2) := d 7 (by omega)
   subst e0
   have hz : w.heap.size ≤ wr.heap.size := HST.out.onto.size
   have hlr : b < wr.heap.size := HST.out.state.lt
   have OKC : Hid (CoreOk q.1) := okc
   have OK1 : Hid (TreeOk n q.2.1) := ok1
   have OK2 : Hid (TreeOk n q.2.2) := ok2
   have NMP : Hid (∀ p ∈ q.1.parts, PtNum p) := nmp
   have NM1 : Hid (NumsOk n q.2.1) := nm1
   have NM2 : Hid (NumsOk n q.2.2) := nm2
   have HPE : Hid (PartsV wr P (.slice ae ne ce) q.1.parts) := partsV_lower hpe HP.out hBl
   have HR1 : Hid (RulesV n wr P (.slice a1 n1 c1) q.2.1) := rulesV_lower hr1 HP.out hBl
   have HR2 : Hid (RulesV n wr P (.slice a2 n2 c2) q.2.2) := rulesV_lower hr2 HP.out hBl
   have HSB2 : Hid (∀ i, (S i ∨ w.heap.size ≤ i) → b < i) := fun i hi => by
    rcases hi with hi | hi
    ·exact HSB.out i hi
    ·omega
   have HDS : Hid _ := hstep
   have hro : RecRun (fun l => NumsOk n l ∧ TreeOk n l) (workS n) (doF n) := fun s l hl hs => doF_ok n l s hl.1 hl.2 hs
   have HTO : Hid (StOk (doT (doF n) sk q) ∧ (doT (doF n) sk q).2.length ≤ sk.2.length + workT (workS n) q) := doT_ok hro sk q nmp ⟨nm1, ok1⟩ ⟨nm2, ok2⟩ okc.kind HSK.out
   have HWN : Hid (sk.2.length + workT (workS n) q ≤ 100000) := by show _ ≤ _; omega
   have HWM : Hid (sk.2.length + (workT (workS n) q + workL (workS n) (l.drop (k + 1))) ≤ 100000) := hwk
   clear hstep hwk okc ok1 ok2 nmp nm1 nm2 hpe hr1 hr2 hcs d hq hBl hro
   go_wp2_with fail
   have hBA : Below wr.heap.size wr (wr.alloc (.cells #[.int .i64 q.1.kind, .int .i64 q.1.place, .int .i64 q.1.name, .int .i64 q.1.label, .int .i64 q.1.count, .slice ae ne ce, .slice a1 n1 c1, .slice a2 n2 c2] 149)) := (Below.refl _ _).alloc (Nat.le_refl _) _
   refine (do_step n IH.out b _ sk q P _ _ _ _ OKC.out OK1.out OK2.out NMP.out NM1.out NM2.out HSK.out HWN.out (HST.out.state.keep hBA (Nat.le_refl _)) (partsV_below HPE.out hBA) (rulesV_below HR1.out hBA) (rulesV_below HR2.out hBA) HP.out HSB2.out).mono ?_
   rintro e w1 ⟨rfl, hs1⟩
   have HST1 : Hid (StepAt b S w w1 (doT (doF n) sk q)) := HST.out.trans (hs1.pre hBA)
   clear hs1 hBA HST d0 d1 d2 d3 d4 d5 d6 d7
   go_wp2_with fail
   go_roundw
   case rel => exact ⟨k + 1, _, by go_num, by omega, HTO.out.1, by show _ ≤ _; have h1 := HTO.out.2; have h2 := HWM.out; omega, HST1, HDS⟩
   case measure => simp [intOf]; omega
  ·have tk : decide ((k : Int) < (l.length : Int)) = false := by simp; omega
   have hfin : sk = R := by
    have := HL.out
    rw [List.drop_of_length_le (by omega)] at this
    exact this
   have HF : Hid _ := hfin
   clear hfin
   go_wp2_with fail
   go_end0
   rw [← HF.out]
   exact ⟨rfl, HST.out⟩
theorem doAll_any : ∀ n, DoCalls n
 | 0 => doAll_zero
 | n + 1 => fun b S s l P v w ht hn hs hw hS hv hP hSb => doAll_step n (doAll_any n) b S s l P v w ht.1 ht.2 hn hs hw hS hv hP hSb
end Go.Proofs.YtdgmoiflahoihaaGreatDoor
namespace Go.Proofs.YtdgmoiflahoihaaGreatDoor
open Go.RowKit
set_option linter.unusedSimpArgs false
set_option linter.unusedVariables false
def countF (l : List Hd) : Nat := (l.filter (·.field)).length
def fillV : List Hd → List Int → List Vl → List Vl
 | [], _, vals => vals
 | h :: r, fs, vals => if h.field then (match fs with | [] => fillV r [] vals | f :: g => fillV r g (vals.set h.name.toNat ⟨f, 0⟩)) else fillV r fs vals
theorem countF_cons (h : Hd) (r : List Hd) : countF (h :: r) = (if h.field then 1 else 0) + countF r := by
 unfold countF
 cases e : h.field <;> simp [e]; omega
set_option maxRecDepth 100000 in
set_option maxHeartbeats 1000000 in
theorem countFields_any (l : List Hd) (P : Nat → Prop) (v : Value) (w : World) (hl : l.length ≤ 1000) (hv : HeadsV w P v l) :
  Calls Tryz.prog 66 #[v] w fun e w' => e = .returned (.int .i64 (countF l : Nat)) ∧ Below w.heap.size w w' := by
 obtain ⟨ao, g, cap, rfl, hcap, hcells⟩ := heads_form hv
 clear hv
 have HC : Hid (HeadCells w ao g l) := hcells
 clear hcells
 have hcl : countF l ≤ l.length := List.length_filter_le _ _
 have HR : Hid (0 + countF l = countF l) := by show _ = _; omega
 generalize hR : countF l = R at *
 have HR2 : Hid (countF l = R) := hR
 clear hR
 go_enter Tryz.func66, Tryz.ntmps66
 go_wp2_with fail
 go_loopw [3, 8] (fun x y w' => ∃ (k a : Nat), y = .int .i64 k ∧ x = .int .i64 a ∧ k ≤ l.length ∧ a ≤ k ∧ Hid (Below w.heap.size w w') ∧ Hid (a + countF (l.drop k) = R)) (fun _ y _ => l.length - (intOf y).toNat)
 case atStart => exact ⟨0, 0, rfl, rfl, by omega, by omega, Below.refl _ _, by show _ = _; have := HR2.out; simpa using this⟩
 case round =>
  obtain ⟨k, a, rfl, rfl, hk, hak, HW, HL⟩ := hrel
  by_cases hlt : k < l.length
  ·have tk : decide ((k : Int) < (l.length : Int)) = true := by simp; omega
   obtain ⟨e0, hg, c0, c1, c2, c3⟩ := HC.out k hlt
   rw [← HW.out.cell (p := ⟨g, k * 4, none⟩) hg] at c0
   rw [← HW.out.cell (p := ⟨g, k * 4 + 1, none⟩) hg] at c1
   rw [← HW.out.cell (p := ⟨g, k * 4 + 2, none⟩) hg] at c2
   rw [← HW.out.cell (p := ⟨g, k * 4 + 3, none⟩) hg] at c3
   have hz : w.heap.size ≤ wr.heap.size := HW.out.size
   have hstep := HL.out
   rw [List.drop_eq_getElem_cons hlt, countF_cons] at hstep
   generalize hp : l[k] = p at *
   obtain ⟨fd, pl, nm, lb⟩ := p
   simp only at c0 c1 c2 c3 hstep
   subst e0
   cases fd
   ·have HS : Hid (a + countF (l.drop (k + 1)) = R) := by show _ = _; simpa using hstep
    clear hstep hp
    go_wp2_with fail
    go_roundw
    case rel => exact ⟨k + 1, a, by go_num, rfl, by omega, by omega, HW.out.alloc (by omega) _, HS⟩
    case measure => simp [intOf]; omega
   ·have HS : Hid (a + 1 + countF (l.drop (k + 1)) = R) := by show _ = _; simp at hstep; omega
    clear hstep hp
    go_wp2_with fail
    go_roundw
    case rel => exact ⟨k + 1, a + 1, by go_num, by go_num, by omega, by omega, HW.out.alloc (by omega) _, HS⟩
    case measure => simp [intOf]; omega
  ·have tk : decide ((k : Int) < (l.length : Int)) = false := by simp; omega
   have hfin : a = R := by
    have := HL.out
    rw [List.drop_of_length_le (by omega)] at this
    exact this
   have HF : Hid _ := hfin
   clear hfin
   go_wp2_with fail
   go_ret
   exact ⟨ret_int (by rw [HF.out]), HW.out⟩
structure IntsAt (w : World) (P : Nat → Prop) (v : Value) (l : List Int) : Prop where
 here : ∃ ao g cap, v = .slice ao l.length cap ∧ ∀ i, ∀ hi : i < l.length, ao = some ⟨g, 0, none⟩ ∧ P g ∧ w.cell? ⟨g, i, none⟩ = some (.int .i64 l[i])
theorem IntsAt.frame {w w' : World} {P Q : Nat → Prop} {v : Value} {l : List Int} (h : IntsAt w P v l) (hk : ∀ k, P k → k < w.heap.size → Q k ∧ w'.heap[k]? = w.heap[k]?) : IntsAt w' Q v l := by
 obtain ⟨ao, g, cap, hv, hc⟩ := h.here
 refine ⟨ao, g, cap, hv, fun i hi => ?_⟩
 obtain ⟨a, b, c⟩ := hc i hi
 have hlt := World.block_lt_of_cell? w _ c
 obtain ⟨q1, q2⟩ := hk g b hlt
 exact ⟨a, q1, (World.cell?_of_block (a := ⟨g, i, none⟩) q2).trans c⟩
theorem StepAt.later {b : Nat} {S : Nat → Prop} {w w1 w2 : World} {s : SR} (h : StepAt b S w w1 s) (k : Below w1.heap.size w1 w2) : StepAt b S w w2 s :=
 ⟨h.state.keep k (Nat.le_refl _), h.onto.trans (Onto.of_below k)⟩
theorem fillV_skip {h : Hd} {r : List Hd} {fs : List Int} {vals : List Vl} (hf : h.field = false) : fillV (h :: r) fs vals = fillV r fs vals := by
 conv => lhs; unfold fillV
 rw [if_neg (by simp [hf])]
theorem fillV_none {h : Hd} {r : List Hd} {vals : List Vl} : fillV (h :: r) [] vals = fillV r [] vals := by
 cases hf : h.field
 ·exact fillV_skip hf
 ·conv => lhs; unfold fillV
  rw [if_pos hf]
theorem fillV_some {h : Hd} {r : List Hd} {f : Int} {fs : List Int} {vals : List Vl} (hf : h.field = true) : fillV (h :: r) (f :: fs) vals = fillV r fs (vals.set h.name.toNat ⟨f, 0⟩) := by
 conv => lhs; unfold fillV
 rw [if_pos hf]
theorem num_ok {f : Int} (h : -9223372036854775808 ≤ f ∧ f ≤ 9223372036854775807) : VlOk ⟨f, 0⟩ := ⟨h, by simp, by simp⟩
theorem fillV_ok : ∀ (hs : List Hd) (fs : List Int) (vals : List Vl), (∀ x ∈ fs, -9223372036854775808 ≤ x ∧ x ≤ 9223372036854775807) → vals.length = 26 → (∀ v ∈ vals, VlOk v) → (fillV hs fs vals).length = 26 ∧ ∀ v ∈ fillV hs fs vals, VlOk v
 | [], fs, vals, _, hl, ho => ⟨hl, ho⟩
 | h :: r, fs, vals, hf, hl, ho => by
  cases e : h.field
  ·rw [fillV_skip e]; exact fillV_ok r fs vals hf hl ho
  ·cases fs with
   | nil => rw [fillV_none]; exact fillV_ok r [] vals hf hl ho
   | cons f g =>
    rw [fillV_some e]
    have k := StOk.set (s := (vals, [])) ⟨hl, ho⟩ (num_ok (hf f (by simp))) h.name.toNat []
    exact fillV_ok r g _ (fun x hx => hf x (by simp [hx])) k.len k.ok
set_option maxRecDepth 100000 in
set_option maxHeartbeats 1000000 in
theorem takeFields_any (b : Nat) (S P : Nat → Prop) (hs : List Hd) (fs : List Int) (s : SR) (vh vf : Value) (w : World) (hl : hs.length ≤ 1000) (hfl : fs.length ≤ 1000) (hfr : ∀ x ∈ fs, -9223372036854775808 ≤ x ∧ x ≤ 9223372036854775807) (hok : ∀ h ∈ hs, 0 ≤ h.name ∧ h.name < 26) (hso : StOk s) (hS : StateAt w b S s) (hv : HeadsV w P vh hs) (hf : IntsAt w P vf fs) (hP : ∀ k, P k → k < b) (hSb : ∀ k, S k → b < k) :
  Calls Tryz.prog 67 #[.pointer (some ⟨b, 0, none⟩), vh, vf] w fun e w' => e = .returned (.tuple #[]) ∧ StepAt b S w w' (fillV hs fs s.1, s.2) := by
 have hlt0 := hS.lt
 obtain ⟨ao, g, cap, rfl, hcap, hcells⟩ := heads_form hv
 have HC : Hid (∀ i, ∀ hi : i < hs.length, ao = some ⟨g, 0, none⟩ ∧ g < b ∧ w.cell? ⟨g, i * 4, none⟩ = some (.bool hs[i].field) ∧ w.cell? ⟨g, i * 4 + 1, none⟩ = some (.int .i64 hs[i].place) ∧ w.cell? ⟨g, i * 4 + 2, none⟩ = some (.int .i64 hs[i].name) ∧ w.cell? ⟨g, i * 4 + 3, none⟩ = some (.int .i64 hs[i].label)) := by
  intro i hi
  obtain ⟨e0, _, c⟩ := hcells i hi
  exact ⟨e0, hP g (hv.2 g (by rw [e0]; rfl)), c⟩
 obtain ⟨af, gf, capf, rfl, hff⟩ := hf.here
 have HF : Hid (∀ i, ∀ hi : i < fs.length, af = some ⟨gf, 0, none⟩ ∧ gf < b ∧ w.cell? ⟨gf, i, none⟩ = some (.int .i64 fs[i])) := by
  intro i hi
  obtain ⟨e0, e1, c⟩ := hff i hi
  exact ⟨e0, hP gf e1, c⟩
 have HOK : Hid _ := hok
 have HFR : Hid _ := hfr
 have HST0 : Hid (StepAt b S w w s) := StepAt.still hS (Below.refl _ _)
 have HSO : Hid (StOk s) := hso
 have HSB : Hid (∀ k, S k → b < k) := hSb
 generalize hR : fillV hs fs s.1 = R at *
 have HR : Hid (fillV hs fs s.1 = R) := hR
 obtain ⟨vals0, nts⟩ := s
 simp only at *
 clear hcells hv hf hff hok hfr hso hS hR hSb hP
 go_enter Tryz.func67, Tryz.ntmps67
 go_wp2_with fail
 go_loopw [6, 11] (fun x y w' => ∃ (k j : Nat) (vals : List Vl), y = .int .i64 k ∧ x = .int .i64 j ∧ k ≤ hs.length ∧ j ≤ fs.length ∧ Hid (StOk (vals, nts)) ∧ Hid (StepAt b S w w' (vals, nts)) ∧ Hid (fillV (hs.drop k) (fs.drop j) vals = R)) (fun _ y _ => hs.length - (intOf y).toNat)
 case atStart => exact ⟨0, 0, vals0, rfl, rfl, by omega, by omega, HSO, HST0, HR⟩
 case round =>
  obtain ⟨k, j, vals, rfl, rfl, hk, hj, HSK, HST, HL⟩ := hrel
  by_cases hlt : k < hs.length
  ·have tk : decide ((k : Int) < (hs.length : Int)) = true := by simp; omega
   obtain ⟨e0, hgb, c0, c1, c2, c3⟩ := HC.out k hlt
   obtain ⟨nm0, nm1⟩ := HOK.out hs[k] (List.getElem_mem hlt)
   have hBl : Below b w wr := HST.out.onto.below hlt0 HSB.out
   rw [← hBl.cell (p := ⟨g, k * 4, none⟩) hgb] at c0
   rw [← hBl.cell (p := ⟨g, k * 4 + 1, none⟩) hgb] at c1
   rw [← hBl.cell (p := ⟨g, k * 4 + 2, none⟩) hgb] at c2
   rw [← hBl.cell (p := ⟨g, k * 4 + 3, none⟩) hgb] at c3
   have hz : w.heap.size ≤ wr.heap.size := HST.out.onto.size
   have hlr : b < wr.heap.size := HST.out.state.lt
   have hstep := HL.out
   rw [List.drop_eq_getElem_cons hlt] at hstep
   generalize hp : hs[k] = p at *
   subst e0
   cases hfd : p.field
   ·rw [fillV_skip hfd] at hstep
    obtain ⟨fd, pl, nm, lb⟩ := p
    simp only at c0 c1 c2 c3 hfd nm0 nm1
    subst hfd
    have HS1 : Hid _ := hstep
    have HST1 : Hid (StepAt b S w (wr.alloc (.cells #[.bool false, .int .i64 pl, .int .i64 nm, .int .i64 lb] 146)) (vals, nts)) := HST.out.later ((Below.refl _ _).alloc (Nat.le_refl _) _)
    clear hstep hp hBl
    go_wp2_with fail
    go_roundw
    case rel => exact ⟨k + 1, j, vals, by go_num, rfl, by omega, by omega, HSK, HST1, HS1⟩
    case measure => simp [intOf]; omega
   ·by_cases hjl : j < fs.length
    ·rw [List.drop_eq_getElem_cons hjl, fillV_some hfd] at hstep
     have tj : decide ((j : Int) < (fs.length : Int)) = true := by simp; omega
     obtain ⟨f0, hgf, d0⟩ := HF.out j hjl
     rw [← hBl.cell (p := ⟨gf, j, none⟩) hgf] at d0
     have hfj := HFR.out fs[j] (List.getElem_mem hjl)
     generalize hf1 : fs[j] = f at *
     subst f0
     obtain ⟨fd, pl, nm, lb⟩ := p
     simp only at c0 c1 c2 c3 hfd nm0 nm1 hstep
     subst hfd
     obtain ⟨nn, rfl⟩ : ∃ nn : Nat, nm = nn := ⟨nm.toNat, by omega⟩
     rw [Int.toNat_natCast] at hstep
     have hnn : nn < 26 := by omega
     have HS1 : Hid _ := hstep
     have HST1 : Hid (StepAt b S w (wr.alloc (.cells #[.bool true, .int .i64 pl, .int .i64 nn, .int .i64 lb] 146)) (vals, nts)) := HST.out.later ((Below.refl _ _).alloc (Nat.le_refl _) _)
     have HSK1 : Hid (StOk (vals.set nn ⟨f, 0⟩, nts)) := StOk.set HSK.out (num_ok hfj) nn nts
     clear hstep hp hBl hf1
     go_upto_region 5 with fail
     generalize hW : wr.alloc (.cells #[.bool true, .int .i64 pl, .int .i64 nn, .int .i64 lb] 146) = W at *
     have k2 : W.cell? ⟨wr.heap.size, 2, none⟩ = some (.int .i64 nn) := by rw [← hW]; simp [go_sem]
     have hWB : Below wr.heap.size wr W := by rw [← hW]; exact (Below.refl _ _).alloc (Nat.le_refl _) _
     have k0 : W.cell? ⟨gf, j, none⟩ = some (.int .i64 f) := (hWB.cell (p := ⟨gf, j, none⟩) (by simp only; omega)).trans d0
     have hlW : b < W.heap.size := by have := hWB.size; omega
     obtain ⟨e0, e1⟩ := HST1.out.state.cell nn hnn
     have efz := HST1.out.state.fz
     simp only at e0 e1
     clear hW hWB c0 c1 c2 c3 d0 HST
     go_cut [11] from 11 to 36 (fun y wx => y = .int .i64 k ∧ StepAt b S w wx (vals.set nn ⟨f, 0⟩, nts))
     case first =>
      go_region_with (go_at_call 100; refine (number_any _ _).mono ?_; rintro e w1 ⟨rfl, hb1⟩; have hb1' := below_undrew hb1; have s0 := (hb1'.cell (p := ⟨b, nn * 2, none⟩) hlW).trans e0; have s1 := (hb1'.cell (p := ⟨b, nn * 2 + 1, none⟩) hlW).trans e1; have sf : ∀ o, w1.frozen? ⟨b, o, none⟩ = false := (fun o => (hb1'.frozen (p := ⟨b, o, none⟩) hlW).trans (efz o)); have k2 := (hb1'.cell (p := ⟨wr.heap.size, 2, none⟩) (World.block_lt_of_cell? W _ k2)).trans k2)
      all_goals (go_wp2_with fail; go_meet)
      all_goals exact ⟨rfl, ((HST1.out.later hb1').state.set HSK.out.len nn hnn ⟨f, 0⟩), ((HST1.out.later hb1').onto.setCell _ _).setCell _ _⟩
     case rest =>
      obtain ⟨rfl, hsx⟩ := hcut
      have HSX : Hid (StepAt b S w wc (vals.set nn ⟨f, 0⟩, nts)) := hsx
      clear hsx
      go_wp2_with fail
      go_roundw
      case rel => exact ⟨k + 1, j + 1, _, by go_num, by go_num, by omega, by omega, HSK1, HSX, HS1⟩
      case measure => simp [intOf]; omega
    ·rw [List.drop_of_length_le (l := fs) (by omega), fillV_none] at hstep
     have tj : decide ((j : Int) < (fs.length : Int)) = false := by simp; omega
     obtain ⟨fd, pl, nm, lb⟩ := p
     simp only at c0 c1 c2 c3 hfd nm0 nm1
     subst hfd
     have HS1 : Hid (fillV (hs.drop (k + 1)) (fs.drop j) vals = R) := by show _ = _; rw [List.drop_of_length_le (l := fs) (by omega)]; exact hstep
     have HST1 : Hid (StepAt b S w (wr.alloc (.cells #[.bool true, .int .i64 pl, .int .i64 nm, .int .i64 lb] 146)) (vals, nts)) := HST.out.later ((Below.refl _ _).alloc (Nat.le_refl _) _)
     clear hstep hp hBl
     go_wp2_with fail
     go_roundw
     case rel => exact ⟨k + 1, j, vals, by go_num, rfl, by omega, by omega, HSK, HST1, HS1⟩
     case measure => simp [intOf]; omega
  ·have tk : decide ((k : Int) < (hs.length : Int)) = false := by simp; omega
   have hfin : vals = R := by
    have := HL.out
    rw [List.drop_of_length_le (by omega)] at this
    exact this
   have HFN : Hid _ := hfin
   clear hfin
   go_wp2_with fail
   go_end0
   rw [← HFN.out]
   exact ⟨rfl, HST.out⟩
end Go.Proofs.YtdgmoiflahoihaaGreatDoor
namespace Go.Proofs.YtdgmoiflahoihaaGreatDoor
open Go.RowKit
set_option linter.unusedSimpArgs false
set_option linter.unusedVariables false
def vals0 : List Vl := List.replicate 26 vl0
def runP (t : List UInt8) (fs : List Int) : Int × List Nt :=
 if (checkP t).1 ≠ 0 then ((checkP t).1, [])
 else if fs.length ≠ countF (parseH t).2 then (6, [])
 else (0, (doF 9 (fillV (parseH t).2 fs vals0, []) (parseR t).2).2)
theorem checkP_ok {t : List UInt8} (h : (checkP t).1 = 0) : t.length ≤ 400 ∧ (parseR t).1.bad = false ∧ twiceL [] (parseH t).2 = none ∧ ¬ 5000 < workS 9 (parseR t).2 ∧ cleanF (labelsP (parseH t).2 (parseR t).2) 9 0 (parseR t).2 = none := by
 unfold checkP at h
 split at h
 ·exact absurd h (by simp)
 rename_i h1
 split at h
 ·exact absurd h (by simp)
 rename_i h2
 split at h
 ·exact absurd h (by simp)
 rename_i h3
 split at h
 ·exact absurd h (by simp)
 rename_i h4
 split at h
 ·exact absurd h (by simp)
 rename_i h5
 exact ⟨by omega, by simpa using h2, h3, h4, h5⟩
theorem text_full (s : ByteArray) (w : World) (hs : s.size ≤ maxLen) (hpo : s.size ≤ 400 → (parseR s.data.toList).1.bad = false → ParseOk s.data.toList) (h0 : (checkP s.data.toList).1 = 0) :
  Calls Tryz.prog 26 #[.string s] w fun e w' => ∃ vh vr, e = .returned (.agg (ok30 vh vr (labelsP (parseH s.data.toList).2 (parseR s.data.toList).2)).toArray) ∧ Below w.heap.size w w' ∧ HeadsV w' (fun k => w.heap.size ≤ k) vh (parseH s.data.toList).2 ∧ RulesV 9 w' (fun k => w.heap.size ≤ k) vr (parseR s.data.toList).2 := by
 obtain ⟨h1, h2, h3, h4, h5⟩ := checkP_ok h0
 have hsl : s.data.toList.length = s.size := by simp
 exact text_ok s w (by omega) (hpo (by omega) h2) h2 h3 h4 h5
set_option maxRecDepth 100000 in
set_option maxHeartbeats 2000000 in
theorem runText_err (s : ByteArray) (vf : Value) (w : World) (e : Int) (hs : s.size ≤ maxLen) (hpo : s.size ≤ 400 → (parseR s.data.toList).1.bad = false → ParseOk s.data.toList) (he : (checkP s.data.toList).1 = e) (hne : e ≠ 0) :
  Calls Tryz.prog 41 #[.string s, vf] w fun x w' => x = .returned (.tuple #[.slice none 0 0, .int .i64 e]) ∧ Below w.heap.size w w' := by
 have HPO : Hid _ := hpo
 have HE : Hid ((checkP s.data.toList).1 = e) := he
 clear hpo he
 have te : (e != 0) = true := by simpa using hne
 go_enter Tryz.func41, Tryz.ntmps41
 go_upto_region 2 with (first | (go_at_call 26; refine (text_any s _ hs HPO.out).mono ?_; rintro x1 w1 ⟨cs, rfl, htc, hb1⟩; have HTC : Hid (TextC s.data.toList cs) := htc; clear htc) | (refine wpList_store_row rfl 71 (.tmp 6) (.tmp 9) rfl w1.heap.size cs.toArray rfl rfl 71 (e30 0 0).toArray (by exact rules_new w1) (by rw [infoRules, HTC.out.size]) (by rw [HTC.out.size]; rfl) HTC.out.one ?_; rw [World.setRow_alloc_new]; simp only [Act.put]))
 have hs1 := hb1.size
 have hbW1 : Below w.heap.size w (w1.alloc (.cells cs.toArray 71)) := hb1.alloc (by omega) _
 have q0 : (w1.alloc (.cells cs.toArray 71)).cell? ⟨w1.heap.size, 0, none⟩ = some (.int .i64 (checkP s.data.toList).1) := by rw [cell_of_row _ _ _ _ _ _ (heap_alloc_new w1 _)]; simpa using HTC.out.cell0
 rw [HE.out] at q0
 generalize hgg : w1.heap.size = g1 at *
 generalize w1.alloc (.cells cs.toArray 71) = W1 at *
 have HBW : Hid (Below w.heap.size w W1) := hbW1
 clear hbW1 hb1 hgg
 go_wp2_with fail
 go_region
 all_goals go_wp2_with fail
 all_goals go_ret2
 all_goals exact ⟨rfl, HBW.out.drew⟩
theorem ownsRow_base {w : World} {base base' size n : Nat} {e : TypeId} {v : Value} {xs : List Value} (h : w.ownsRow base e size v n xs) (hb : base' ≤ base) : w.ownsRow base' e size v n xs := by
 refine ⟨h.1, ?_⟩
 rcases h.2 with h0 | ⟨g, cap, cur, h1, h2, h3⟩
 ·exact .inl h0
 ·exact .inr ⟨g, cap, cur, h1, by omega, h3⟩
def st53 : List Value := vlCells vals0 ++ [.slice none 0 0]
theorem st53_lit : #[.int .i64 0, .int .i64 0, .int .i64 0, .int .i64 0, .int .i64 0, .int .i64 0, .int .i64 0, .int .i64 0, .int .i64 0, .int .i64 0, .int .i64 0, .int .i64 0, .int .i64 0, .int .i64 0, .int .i64 0, .int .i64 0, .int .i64 0, .int .i64 0, .int .i64 0, .int .i64 0, .int .i64 0, .int .i64 0, .int .i64 0, .int .i64 0, .int .i64 0, .int .i64 0, .int .i64 0, .int .i64 0, .int .i64 0, .int .i64 0, .int .i64 0, .int .i64 0, .int .i64 0, .int .i64 0, .int .i64 0, .int .i64 0, .int .i64 0, .int .i64 0, .int .i64 0, .int .i64 0, .int .i64 0, .int .i64 0, .int .i64 0, .int .i64 0, .int .i64 0, .int .i64 0, .int .i64 0, .int .i64 0, .int .i64 0, .int .i64 0, .int .i64 0, .int .i64 0, .slice none 0 0] = st53.toArray := rfl
theorem state_new (w : World) (t : TypeId) : StateAt (w.alloc (.cells st53.toArray t)) w.heap.size (fun _ => False) (vals0, []) := by
 have hh := heap_alloc_new w (.cells st53.toArray t)
 refine ⟨fun k hk => ?_, ⟨.slice none 0 0, ?_, World.ownsRow_nil .., fun k hk => by cases hk⟩, fun o => by unfold World.frozen?; rw [hh]; simp⟩
 ·obtain ⟨d0, d1⟩ := vlCells_at vals0 k (by unfold vals0; simpa using hk)
  have e : vals0.getD k vl0 = vals0[k]'(by unfold vals0; simpa using hk) := by rw [List.getD_eq_getElem?_getD, List.getElem?_eq_getElem (by unfold vals0; simpa using hk)]; rfl
  have hl : (vlCells vals0).length = 52 := by rw [vlCells_len]; rfl
  simp only
  rw [e]
  constructor
  ·rw [cell_of_row _ _ _ _ _ _ hh]
   unfold st53
   rw [List.getElem?_toArray, List.getElem?_append_left (by omega)]
   exact d0
  ·rw [cell_of_row _ _ _ _ _ _ hh]
   unfold st53
   rw [List.getElem?_toArray, List.getElem?_append_left (by omega)]
   exact d1
 ·rw [cell_of_row _ _ _ _ _ _ hh]
  rfl
set_option maxRecDepth 100000 in
set_option maxHeartbeats 2000000 in
theorem runText_ok (s : ByteArray) (fs : List Int) (vf : Value) (w : World) (P : Nat → Prop) (hs : s.size ≤ maxLen) (hpo : s.size ≤ 400 → (parseR s.data.toList).1.bad = false → ParseOk s.data.toList) (hnm : (checkP s.data.toList).1 = 0 → NumsOk 9 (parseR s.data.toList).2) (h0 : (checkP s.data.toList).1 = 0) (hf : IntsAt w P vf fs) (hP : ∀ k, P k → k < w.heap.size) (hfl : fs.length ≤ maxLen) (hfr : ∀ x ∈ fs, -9223372036854775808 ≤ x ∧ x ≤ 9223372036854775807) :
  Calls Tryz.prog 41 #[.string s, vf] w fun x w' => (∃ vn, x = .returned (.tuple #[vn, .int .i64 (runP s.data.toList fs).1]) ∧ ((runP s.data.toList fs).1 ≠ 0 → vn = .slice none 0 0) ∧ w'.ownsRow w.heap.size 61 5 vn (runP s.data.toList fs).2.length (ntCells (runP s.data.toList fs).2)) ∧ Below w.heap.size w w' := by
 obtain ⟨h1, h2, h3, h4, h5⟩ := checkP_ok h0
 have hsl : s.data.toList.length = s.size := by simp
 have hpok := hpo (by omega) h2
 have hnums := hnm h0
 have HT : Hid _ := fun w => text_full s w hs hpo h0
 have hrun : runP s.data.toList fs = if fs.length ≠ countF (parseH s.data.toList).2 then (6, []) else (0, (doF 9 (fillV (parseH s.data.toList).2 fs vals0, []) (parseR s.data.toList).2).2) := by unfold runP; rw [if_neg (by simpa using h0)]
 generalize hRP : runP s.data.toList fs = RP at *
 generalize hHe : parseH s.data.toList = H at *
 generalize hRe : parseR s.data.toList = R at *
 unfold maxLen at hfl
 obtain ⟨hhd, hfew, htree, hwork⟩ := hpok
 rw [hHe] at hhd hfew
 rw [hRe] at htree hwork
 generalize hLb : labelsP H.2 R.2 = Lb at *
 have hLl : Lb.length = 26 := by rw [← hLb]; exact (labelsP_ok hhd htree).len
 have hcl : countF H.2 ≤ 1000 := Nat.le_trans (List.length_filter_le _ _) hfew
 obtain ⟨af, gf, capf, hvf, hff⟩ := hf.here
 have HF : Hid (IntsAt w P vf fs) := hf
 subst hvf
 have HHD : Hid _ := hhd
 have HTR : Hid (TreeOk 9 R.2) := htree
 have HNU : Hid (NumsOk 9 R.2) := hnums
 have HPW : Hid (∀ k, P k → k < w.heap.size) := hP
 have HFR : Hid _ := hfr
 have HRUN : Hid _ := hrun
 clear h0 h1 h2 h3 h5 hpo hnm hff hf hP hhd htree hnums hfr hrun hRP hHe hRe hLb hs
 go_enter Tryz.func41, Tryz.ntmps41
 go_upto_region 2 with (first | (go_at_call 26; refine (HT.out _).mono ?_; rintro x1 w1 ⟨vh, vr, rfl, hb1, hvh, hvr⟩; obtain ⟨ah, nh, ch, hvhe⟩ : ∃ aa nn cc, vh = .slice aa nn cc := (by rcases Joins.ownsRow_forms hvh.1 with ⟨rfl, _⟩ | ⟨g, cap, rfl⟩ <;> exact ⟨_, _, _, rfl⟩); obtain ⟨ar, nr, cr, hvre⟩ := rulesV_form hvr; subst hvhe; subst hvre) | (refine wpList_store_row rfl 71 (.tmp 6) (.tmp 9) rfl w1.heap.size (ok30 (.slice ah nh ch) (.slice ar nr cr) Lb).toArray rfl rfl 71 (e30 0 0).toArray (by exact rules_new w1) (by rw [infoRules, ok30_size _ _ _ hLl]) (by rw [ok30_size _ _ _ hLl]; rfl) (ok30_one _ _ _ _ _ _ _) ?_; rw [World.setRow_alloc_new]; simp only [Act.put]))
 have hs1 := hb1.size
 generalize hW : w1.alloc (.cells (ok30 (.slice ah nh ch) (.slice ar nr cr) Lb).toArray 71) = W1
 have hB1 : Below w1.heap.size w1 W1 := by rw [← hW]; exact (Below.refl _ _).alloc (Nat.le_refl _) _
 have hWs : W1.heap.size = w1.heap.size + 1 := by rw [← hW]; simp
 have q0 : W1.cell? ⟨w1.heap.size, 0, none⟩ = some (.int .i64 0) := by rw [← hW, cell_of_row _ _ _ _ _ _ (heap_alloc_new w1 _)]; rfl
 have q2 : W1.cell? ⟨w1.heap.size, 2, none⟩ = some (.slice ah nh ch) := by rw [← hW, cell_of_row _ _ _ _ _ _ (heap_alloc_new w1 _)]; rfl
 have q3 : W1.cell? ⟨w1.heap.size, 3, none⟩ = some (.slice ar nr cr) := by rw [← hW, cell_of_row _ _ _ _ _ _ (heap_alloc_new w1 _)]; rfl
 have HVH : Hid (HeadsV W1 (fun k => w.heap.size ≤ k) (.slice ah nh ch) H.2) := headsV_frame hvh (fun k hk hl => ⟨hk, hB1.block k hl⟩)
 have HVR : Hid (RulesV 9 W1 (fun k => w.heap.size ≤ k) (.slice ar nr cr) R.2) := rulesV_frame (fun k hk hl => ⟨hk, hB1.block k hl⟩) 9 _ _ hvr
 have HBW : Hid (Below w.heap.size w W1) := hb1.trans (hB1.mono (by omega))
 generalize hgg : w1.heap.size = g1 at *
 have hg1 : g1 < W1.heap.size := by omega
 clear hvh hvr hB1 hW hb1 hgg
 by_cases hne : fs.length = countF H.2
 ·have tn : ((fs.length : Int) != (countF H.2 : Int)) = false := by simp [hne]
  have hfl2 : fs.length ≤ 1000 := by omega
  have hR := HRUN.out
  rw [if_neg (by simpa using hne)] at hR
  generalize hfin : doF 9 (fillV H.2 fs vals0, []) R.2 = FIN at *
  have HFIN : Hid (doF 9 (fillV H.2 fs vals0, []) R.2 = FIN) := hfin
  have hR1 : RP.1 = 0 := by rw [hR]
  have hR2 : RP.2 = FIN.2 := by rw [hR]
  have HR1 : Hid (RP.1 = 0) := hR1
  have HR2 : Hid (RP.2 = FIN.2) := hR2
  clear hfin hR hR1 hR2 HRUN hne
  go_upto_region 7 with (first | (go_at_call 66; refine (countFields_any H.2 _ _ _ hfew HVH.out).mono ?_; rintro x2 w2 ⟨rfl, hb2⟩))
  rw [st53_lit]
  have hs2 := hb2.size
  have hS0 := state_new w2 127
  generalize hW3 : w2.alloc (.cells st53.toArray 127) = W3 at *
  have hB3 : Below w2.heap.size w2 W3 := by rw [← hW3]; exact (Below.refl _ _).alloc (Nat.le_refl _) _
  have hWs3 : W3.heap.size = w2.heap.size + 1 := by rw [← hW3]; simp
  have hB13 : Below W1.heap.size W1 W3 := hb2.trans (hB3.mono (by omega))
  have r2 : W3.cell? ⟨g1, 2, none⟩ = some (.slice ah nh ch) := (hB13.cell (p := ⟨g1, 2, none⟩) hg1).trans q2
  have r3 : W3.cell? ⟨g1, 3, none⟩ = some (.slice ar nr cr) := (hB13.cell (p := ⟨g1, 3, none⟩) hg1).trans q3
  have HB3 : Hid (Below w.heap.size w W3) := HBW.out.trans (hB13.mono HBW.out.size)
  have HVH3 : Hid (HeadsV W3 (fun k => k < w2.heap.size) (.slice ah nh ch) H.2) := headsV_frame HVH.out (fun k hk hl => ⟨by omega, hB13.block k hl⟩)
  have HVR3 : Hid (RulesV 9 W3 (fun k => k < w2.heap.size) (.slice ar nr cr) R.2) := rulesV_frame (fun k hk hl => ⟨by omega, hB13.block k hl⟩) 9 _ _ HVR.out
  have hww : w.heap.size ≤ W1.heap.size := HBW.out.size
  have HF3 : Hid (IntsAt W3 (fun k => k < w2.heap.size) (.slice af fs.length capf) fs) := HF.out.frame (fun k hk hl => ⟨by omega, HB3.out.block k hl⟩)
  generalize hbb : w2.heap.size = b at *
  have hbW : b < W3.heap.size := by omega
  have hgb : g1 < b := by omega
  have hwb : w.heap.size ≤ b := by omega
  have HS0 : Hid (StateAt W3 b (fun _ => False) (vals0, [])) := hS0
  clear hS0 hW3 hB3 hB13 hWs3 hb2 hbb q0 q2 q3 HVH HVR HF HBW hs2 hWs hs1
  have HOV : Hid (StOk (vals0, [])) := ⟨rfl, fun v hv => by have := List.eq_of_mem_replicate hv; rw [this]; exact vl0_ok⟩
  have HSB : Hid (∀ k, (False ∨ W3.heap.size ≤ k) → b < k) := fun k hk => by rcases hk with hk | hk; exact hk.elim; omega
  have HHN : Hid (∀ h ∈ H.2, 0 ≤ h.name ∧ h.name < 26) := fun h hh => ⟨(HHD.out h hh).1, (HHD.out h hh).2.1⟩
  have hfo := fillV_ok H.2 fs vals0 HFR.out HOV.out.len HOV.out.ok
  have HFO : Hid (StOk (fillV H.2 fs vals0, [])) := ⟨hfo.1, hfo.2⟩
  clear hfo
  have HWK : Hid (0 + workS 9 R.2 ≤ 100000) := by show _ ≤ _; omega
  go_upto_region 8 with (first | (go_at_call 67; refine (takeFields_any b (fun _ => False) (fun k => k < b) H.2 fs (vals0, []) _ _ _ hfew hfl2 HFR.out HHN.out HOV.out HS0.out HVH3.out HF3.out (fun k hk => hk) (fun k hk => hk.elim)).mono ?_; rintro x4 w4 ⟨rfl, hs4⟩))
  have hB4 : Below b W3 w4 := hs4.onto.below hbW (fun k hk => hk.elim)
  have r4 : w4.cell? ⟨g1, 3, none⟩ = some (.slice ar nr cr) := (hB4.cell (p := ⟨g1, 3, none⟩) hgb).trans r3
  have HVR4 : Hid (RulesV 9 w4 (fun k => k < b) (.slice ar nr cr) R.2) := rulesV_lower HVR3.out (fun k hk => hk) hB4
  have HS4 : Hid (StepAt b (fun _ => False) W3 w4 (fillV H.2 fs vals0, [])) := hs4
  clear hB4 hs4 r2 r3 HVR3 HVH3 HF3 HS0
  go_wp2_with (first | (go_at_call 68; refine (doAll_any 9 b _ (fillV H.2 fs vals0, []) R.2 (fun k => k < b) _ _ HTR.out HNU.out HFO.out HWK.out HS4.out.state HVR4.out (fun k hk => hk) HSB.out).mono ?_; rw [HFIN.out]; rintro x5 w5 ⟨rfl, hs5⟩; obtain ⟨vn, hvn, hon, _⟩ := hs5.state.row; have HS5 : Hid (StepAt b (fun _ => False) W3 w5 FIN) := HS4.out.trans hs5; clear hs5))
  go_ret2
  refine ⟨⟨vn, ?_, fun hx => absurd HR1.out hx, ?_⟩, HB3.out.trans ((HS5.out.onto.below hbW (fun k hk => hk.elim)).mono hwb)⟩
  ·rw [HR1.out]; rfl
  ·rw [HR2.out]
   exact ownsRow_base (show w5.ownsRow (b + 1) 61 5 vn FIN.2.length (ntCells FIN.2) from hon) (by omega)
 ·have tn : ((fs.length : Int) != (countF H.2 : Int)) = true := by simp; omega
  have hR := HRUN.out
  rw [if_pos (by simpa using hne)] at hR
  have HR : Hid (RP = (6, [])) := hR
  clear hR HRUN
  go_wp2_with (first | (go_at_call 66; refine (countFields_any H.2 _ _ _ hfew HVH.out).mono ?_; rintro x2 w2 ⟨rfl, hb2⟩))
  go_ret2
  rw [HR.out]
  exact ⟨⟨_, rfl, fun _ => rfl, World.ownsRow_nil ..⟩, HBW.out.trans (hb2.mono HBW.out.size)⟩
def RunPost (w : World) (r : Int × List Nt) (x : Ending) (w' : World) : Prop :=
 (∃ vn, x = .returned (.tuple #[vn, .int .i64 r.1]) ∧ (r.1 ≠ 0 → vn = .slice none 0 0) ∧ w'.ownsRow w.heap.size 61 5 vn r.2.length (ntCells r.2)) ∧ Below w.heap.size w w'
theorem runText_any (s : ByteArray) (fs : List Int) (vf : Value) (w : World) (P : Nat → Prop) (hs : s.size ≤ maxLen) (hpo : s.size ≤ 400 → (parseR s.data.toList).1.bad = false → ParseOk s.data.toList) (hnm : (checkP s.data.toList).1 = 0 → NumsOk 9 (parseR s.data.toList).2) (hf : IntsAt w P vf fs) (hP : ∀ k, P k → k < w.heap.size) (hfl : fs.length ≤ maxLen) (hfr : ∀ x ∈ fs, -9223372036854775808 ≤ x ∧ x ≤ 9223372036854775807) :
  Calls Tryz.prog 41 #[.string s, vf] w (RunPost w (runP s.data.toList fs)) := by
 by_cases h0 : (checkP s.data.toList).1 = 0
 ·exact runText_ok s fs vf w P hs hpo hnm h0 hf hP hfl hfr
 ·refine (runText_err s vf w _ hs hpo rfl h0).mono ?_
  rintro e w' ⟨rfl, hb⟩
  have : runP s.data.toList fs = ((checkP s.data.toList).1, []) := by unfold runP; rw [if_pos h0]
  rw [this]
  exact ⟨⟨_, rfl, fun _ => rfl, World.ownsRow_nil ..⟩, hb⟩
end Go.Proofs.YtdgmoiflahoihaaGreatDoor
namespace Go.Proofs.YtdgmoiflahoihaaGreatDoor
set_option linter.unusedSimpArgs false
set_option linter.unusedVariables false
theorem numF_in (t : List UInt8) : ∀ (n : Nat) (r : Rd) (v B : Int), 0 ≤ v → v < B → 0 ≤ (Rd.numF t n r v).2 ∧ (Rd.numF t n r v).2 < B * 10 ^ n
 | 0, r, v, B, h0, h1 => ⟨h0, by simpa [Rd.numF] using h1⟩
 | n + 1, r, v, B, h0, h1 => by
  have hp : (0 : Int) < 10 ^ n := Int.pow_pos (by decide)
  have e : B * 10 ^ (n + 1) = B * 10 * 10 ^ n := by rw [Int.pow_succ, Int.mul_assoc, Int.mul_comm (10 ^ n) 10]
  rw [e]
  unfold Rd.numF
  split
  ·have d := digit_le t r
   exact numF_in t n _ _ (B * 10) (by omega) (by omega)
  ·refine ⟨h0, ?_⟩
   have h2 : B * 10 * 1 ≤ B * 10 * 10 ^ n := Int.mul_le_mul_of_nonneg_left (by omega) (by omega)
   simp only
   omega
theorem number_in (t : List UInt8) (r : Rd) : -9223372036854775808 ≤ (r.number t).2 ∧ (r.number t).2 ≤ 9223372036854775807 := by
 have d := digit_le t r
 have h := numF_in t 17 (r.takeOne t 48 57).1 (r.takeOne t 48 57).2 10 d.1 (by omega)
 unfold Rd.number
 have e : (10 : Int) * 10 ^ 17 = 1000000000000000000 := by decide
 rw [e] at h
 omega
theorem takeOne_in (t : List UInt8) (r : Rd) (a b : UInt8) : -9223372036854775808 ≤ (r.takeOne t a b).2 ∧ (r.takeOne t a b).2 ≤ 9223372036854775807 := by
 unfold Rd.takeOne
 split
 ·have h1 := (t.getD r.pos 0).toNat_lt
  have h2 := a.toNat_lt
  constructor <;> simp only <;> omega
 ·simp
def PN (x : RP) : Prop := ∀ p ∈ x.2, PtNum p
theorem pn_app {r r' : Rd} {l m : List Pt} (h : PN (r, l)) (k : ∀ p ∈ m, PtNum p) : PN (r', l ++ m) := by
 intro p hp
 rcases List.mem_append.mp hp with e | e
 ·exact h p e
 ·exact k p e
theorem pn_one {r r' : Rd} {l : List Pt} (h : PN (r, l)) (op : Int) {v : Int} (hv : -9223372036854775808 ≤ v ∧ v ≤ 9223372036854775807) : PN (r', l ++ [⟨op, v⟩]) :=
 pn_app h (by intro p hp; simp at hp; subst hp; exact hv)
theorem plainU_pn {t : List UInt8} {cmp : RP → RP} (hc : ∀ x, PN x → PN (cmp x)) {x : RP} (h : PN x) : PN (plainU t cmp x) := by
 unfold plainU
 split
 ·exact pn_one h 1 (number_in t x.1)
 split
 ·exact pn_one h 2 (takeOne_in t x.1 97 122)
 split
 ·exact hc _ h
 ·exact h
theorem unitU_pn {t : List UInt8} {cmp : RP → RP} (hc : ∀ x, PN x → PN (cmp x)) {x : RP} (h : PN x) : PN (unitU t cmp x) := by
 unfold unitU
 have k := plainU_pn (t := t) hc (x := ((minusF t (t.length + 1) x.1).1, x.2)) h
 refine pn_app (r := (plainU t cmp ((minusF t (t.length + 1) x.1).1, x.2)).1) k ?_
 intro p hp
 have := List.eq_of_mem_replicate hp
 subst this
 exact ⟨by decide, by decide⟩
theorem prodL_pn {t : List UInt8} {cmp : RP → RP} (hc : ∀ x, PN x → PN (cmp x)) : ∀ (n : Nat) (x : RP), PN x → PN (prodL t cmp n x)
 | 0, x, h => h
 | n + 1, x, h => by
  unfold prodL
  simp only
  split
  ·exact h
  ·refine prodL_pn hc n _ ?_
   exact pn_one (r := (unitU t cmp ((x.1.prodOper t).1, x.2)).1) (unitU_pn hc (x := ((x.1.prodOper t).1, x.2)) h) _ (by decide)
theorem prodU_pn {t : List UInt8} {cmp : RP → RP} (hc : ∀ x, PN x → PN (cmp x)) {x : RP} (h : PN x) : PN (prodU t cmp x) := prodL_pn hc _ _ (unitU_pn hc h)
theorem sumL_pn {t : List UInt8} {cmp : RP → RP} (hc : ∀ x, PN x → PN (cmp x)) : ∀ (n : Nat) (x : RP), PN x → PN (sumL t cmp n x)
 | 0, x, h => h
 | n + 1, x, h => by
  unfold sumL
  simp only
  split
  ·exact h
  ·refine sumL_pn hc n _ ?_
   exact pn_one (r := (prodU t cmp ((x.1.oper t 43 4 45 5).1, x.2)).1) (prodU_pn hc (x := ((x.1.oper t 43 4 45 5).1, x.2)) h) _ (by decide)
theorem sumU_pn {t : List UInt8} {cmp : RP → RP} (hc : ∀ x, PN x → PN (cmp x)) {x : RP} (h : PN x) : PN (sumU t cmp x) := sumL_pn hc _ _ (prodU_pn hc h)
theorem cmpU_pn {t : List UInt8} {cmp : RP → RP} (hc : ∀ x, PN x → PN (cmp x)) {x : RP} (h : PN x) : PN (cmpU t cmp x) := by
 unfold cmpU
 simp only
 split
 ·exact sumU_pn hc h
 ·exact pn_one (r := (sumU t cmp (((sumU t cmp x).1.oper t 60 9 61 10).1, (sumU t cmp x).2)).1) (sumU_pn hc (x := (((sumU t cmp x).1.oper t 60 9 61 10).1, (sumU t cmp x).2)) (sumU_pn hc h)) _ (by decide)
theorem cmpF_pn (t : List UInt8) : ∀ (n : Nat) (x : RP), PN x → PN (cmpF t n x)
 | 0, x, h => h
 | n + 1, x, h => cmpU_pn (fun y hy => cmpF_pn t n y hy) h
theorem expr_pn (t : List UInt8) (r : Rd) : ∀ p ∈ (exprU t r).2, PtNum p := by
 have h : PN (cmpF t 10 (r, [])) := cmpF_pn t 10 (r, []) (by intro p hp; simp at hp)
 unfold exprU
 exact h
theorem ruleU_pn {α : Type} {t : List UInt8} {blk : Rd → Rd × List α} {ok : List α → Prop} (hn : ok []) (hb : ∀ r, ok (blk r).2) (r : Rd) : (∀ p ∈ (ruleU t blk r).2.1.parts, PtNum p) ∧ ok (ruleU t blk r).2.2.1 ∧ ok (ruleU t blk r).2.2.2 := by
 unfold ruleU
 split
 ·exact ⟨expr_pn t _, hn, hn⟩
 split
 ·exact ⟨expr_pn t _, hn, hn⟩
 split
 ·exact ⟨expr_pn t _, hn, hn⟩
 split
 ·simp only
  split
  ·exact ⟨expr_pn t _, hb _, hb _⟩
  ·exact ⟨expr_pn t _, hb _, hn⟩
 split
 ·exact ⟨by intro p hp; simp at hp, hb _, hn⟩
 ·exact ⟨by intro p hp; simp [Core.none] at hp, hn, hn⟩
theorem rulesL_pn {α : Type} {rule : Rd → Rd × α} {halt : Rd → Bool} {one : α → Prop} (hr : ∀ r, one (rule r).2) : ∀ (k : Nat) (r : Rd), ∀ q ∈ (rulesL rule halt k r).2, one q
 | 0, r => by intro q hq; simp [rulesL] at hq
 | k + 1, r => by
  unfold rulesL
  split
  ·intro q hq; simp at hq
  ·intro q hq
   rcases List.mem_cons.mp hq with e | e
   ·rw [e]; exact hr r
   ·exact rulesL_pn hr k _ q e
theorem nums_nil : ∀ n, NumsOk n []
 | 0 => trivial
 | n + 1 => by intro q hq; cases hq
theorem blockF_pn (t : List UInt8) : ∀ (n : Nat) (r : Rd), NumsOk n (blockF t n r).2
 | 0, r => trivial
 | n + 1, r => by
  show NumsOk (n + 1) (blockU t (α := RT (n + 1)) (fun r => ruleU t (blockF t n) r) r).2
  unfold blockU
  exact rulesL_pn (α := RT (n + 1)) (one := fun q : RT (n + 1) => (∀ p ∈ (show Core × List (RT n) × List (RT n) from q).1.parts, PtNum p) ∧ NumsOk n (show Core × List (RT n) × List (RT n) from q).2.1 ∧ NumsOk n (show Core × List (RT n) × List (RT n) from q).2.2) (fun r => ruleU_pn (nums_nil n) (fun r => blockF_pn t n r) r) _ _
theorem parse_nums (t : List UInt8) : NumsOk 9 (parseR t).2 := by
 unfold parseR
 exact rulesL_pn (α := RT 9) (one := fun q : RT 9 => (∀ p ∈ (show Core × List (RT 8) × List (RT 8) from q).1.parts, PtNum p) ∧ NumsOk 8 (show Core × List (RT 8) × List (RT 8) from q).2.1 ∧ NumsOk 8 (show Core × List (RT 8) × List (RT 8) from q).2.2) (fun r => ruleU_pn (nums_nil 8) (fun r => blockF_pn t 8 r) r) _ _
end Go.Proofs.YtdgmoiflahoihaaGreatDoor
namespace Go.Proofs.YtdgmoiflahoihaaGreatDoor
set_option linter.unusedSimpArgs false
set_option linter.unusedVariables false
def repO (f : SR → Option SR) : Nat → SR → Option SR
 | 0, s => some s
 | n + 1, s => match f s with | some s' => repO f n s' | none => none
def giveO (e : Rest) (v : Vl) (s : SR) : List Vl := if 0 ≤ e.name then s.1.set e.name.toNat v else s.1
def ruleO (p1 p2 : SR → Option SR) (c : UInt8) (a : Int) (e : Rest) (v : Vl) (s : SR) : Option SR :=
 if c = 62 then (if 0 ≤ e.label then some (giveO e v s, s.2 ++ [⟨0, a.toNat, e.label.toNat, v⟩]) else none)
 else if c = 94 then (if 0 ≤ e.label then some (giveO e v s, s.2 ++ [⟨1, a.toNat, e.label.toNat, v⟩]) else none)
 else if c = 40 then (if v.fault = 0 then (if v.num ≠ 0 then p1 (giveO e v s, s.2) else p2 (giveO e v s, s.2)) else some (giveO e v s, s.2))
 else some (giveO e v s, s.2)
def stepO (C : List UInt8) (A : List Int) (play : Nat → Nat → SR → Option SR) (lo : Nat) (s : SR) : Option SR :=
 match restC C lo, blocksC C lo, C[lo]?, A[lo]? with
 | some e, some t, some c, some a =>
  if c = 42 then
   match C[lo + 1]? with
   | some d => if 48 ≤ d.toNat then repO (fun s => play t.p t.q s) (d.toNat - 48) s else none
   | none => none
  else
   match valueF C s.1 (C.length + 1) e.lo e.hi with
   | some v => if e.hi ≤ C.length ∧ e.name < 26 ∧ 0 ≤ a then ruleO (fun s => play t.p t.q s) (fun s => play t.r t.s s) c a e v s else none
   | none => none
 | _, _, _, _ => none
def playF (C : List UInt8) (A : List Int) : Nat → Nat → Nat → SR → Option SR
 | 0, _, _, _ => none
 | f + 1, lo, hi, s =>
  if lo < hi then
   match overC C lo, stepO C A (playF C A f) lo s with
   | some o, some s' => playF C A f o hi s'
   | _, _ => none
  else some s
theorem playF_out (C : List UInt8) (A : List Int) (f lo hi : Nat) (s : SR) (h : ¬ lo < hi) : playF C A (f + 1) lo hi s = some s := by
 unfold playF
 rw [if_neg h]
theorem playF_in {C : List UInt8} {A : List Int} {f lo hi o : Nat} {s s' : SR} (h : lo < hi) (ho : overC C lo = some o) (hs : stepO C A (playF C A f) lo s = some s') : playF C A (f + 1) lo hi s = playF C A f o hi s' := by
 conv => lhs; unfold playF
 rw [if_pos h, ho, hs]
theorem repO_some {f : SR → Option SR} {g : SR → SR} (h : ∀ s, f s = some (g s)) : ∀ (n : Nat) (s : SR), repO f n s = some (repS g n s)
 | 0, s => rfl
 | n + 1, s => by
  unfold repO repS
  rw [h s]
  exact repO_some h n (g s)
theorem Ev.value {C : List UInt8} {i j : Nat} {s : Option (Nat × Nat)} {P : List Pt} (h : Ev C i j s P) (names : List Vl) : valueF C names (C.length + 1) i j = some (valueV names P) := by
 obtain ⟨v, h1, h2⟩ := h.val
 have hle := h.le
 rw [h1 names _ (by omega)]
 unfold valueV
 rw [h2]
 simp [topV]
theorem play_eq {C : List UInt8} {A : List Int} : ∀ (n : Nat) (l : List (RT n)) (lo hi f : Nat) (s : SR), CutT C A n lo hi l → hi ≤ C.length → hi - lo < f → playF C A f lo hi s = some (doF n s l)
 | 0, l, lo, hi, 0, s, h, _, hf => by omega
 | 0, l, lo, hi, f + 1, s, h, _, hf => by
  have h' : lo = hi := h
  subst h'
  exact playF_out C A f lo lo s (Nat.lt_irrefl _)
 | n + 1, l, lo, hi, f, s, h, hh, hf => by
  have key : ∀ (l : List (Core × List (RT n) × List (RT n))) (lo f : Nat) (s : SR), CutL (fun i o q => CutOne C A (CutT C A n) i o q) lo hi l → hi - lo < f → playF C A f lo hi s = some (doL (doF n) s l) := by
   intro l
   induction l with
   | nil =>
    intro lo f s h hf
    have h' : lo = hi := h
    subst h'
    cases f with
    | zero => omega
    | succ f => exact playF_out C A f lo lo s (Nat.lt_irrefl _)
   | cons q r ih =>
    intro lo f s h hf
    obtain ⟨hlt, o, h1, h2⟩ := h
    obtain ⟨e, he, he1, he2, _, _, hnm, hlb⟩ := h1.rest
    obtain ⟨tw, hb, hb1, hb2⟩ := h1.blocks
    obtain ⟨c, hc, hc42, hc40, hc62, hc94⟩ := h1.byte
    have hpl := h1.place
    have hsp := span_ok h1.over he hb
    have hog := over_gt h1.over
    have hi' := over_lt h1.over
    have hx : tw.q ≤ C.length ∧ tw.s ≤ C.length := by
     have s1 := shutC_le C
     have a2 := s1 (shutC C lo)
     have a3 := s1 (lo + 2)
     have hol := over_le h1.over
     have hbb := hb
     rw [blocks_at h1.over hi'] at hbb
     repeat' split at hbb
     all_goals (cases hbb; simp only; omega)
    have hoh := (cutL_le r o _ (fun i o q hq => over_gt hq.over) h2).1
    cases f with
    | zero => omega
    | succ f =>
    have w1 := fun s => play_eq n q.2.1 tw.p tw.q f s hb1 hx.1 (by omega)
    have w2 := fun s => play_eq n q.2.2 tw.r tw.s f s hb2 hx.2 (by omega)
    have w3 := fun s => ih o f s h2 (by omega)
    have hst : stepO C A (playF C A f) lo s = some (doT (doF n) s q) := by
     unfold stepO
     rw [he, hb, hc, hpl]
     simp only
     by_cases k4 : q.1.kind = 4
     ·rw [if_pos (hc42.mpr k4)]
      obtain ⟨d, hd, d1, d2, hcnt⟩ := h1.times k4
      rw [hd]
      simp only
      rw [if_pos (by omega), repO_some (g := fun s => doF n s q.2.1) w1]
      have e1 : q.1.count.toNat = d.toNat - 48 := by omega
      unfold doT
      simp [k4, e1]
     ·rw [if_neg (fun k => k4 (hc42.mp k))]
      obtain ⟨e', he', sv, hev⟩ := h1.val k4
      rw [he] at he'
      cases he'
      rw [hev.1.value]
      simp only
      obtain ⟨kd0, kd4⟩ := h1.kind
      have hnn := h1.name
      have hgd : e.hi ≤ C.length ∧ e.name < 26 ∧ (0 : Int) ≤ (q.1.place : Int) := by
       refine ⟨he2, ?_, by omega⟩
       rw [hnm]
       split
       ·rename_i hk
        exact (hnn hk).2
       ·omega
      rw [if_pos hgd]
      unfold ruleO doT
      generalize valueV s.1 q.1.parts = v
      by_cases k2 : q.1.kind = 2
      ·rw [if_pos (hc62.mpr k2)]
       have n1 : e.name = -1 := by rw [hnm]; simp [k2]
       have n2 : e.label = (q.1.label : Int) := by rw [hlb]; simp [k2]
       unfold giveO
       rw [n1, n2]
       simp [k2]
      rw [if_neg (fun k => k2 (hc62.mp k))]
      by_cases k1 : q.1.kind = 1
      ·rw [if_pos (hc94.mpr k1)]
       have hn := hnn (.inr k1)
       have n1 : e.name = q.1.name := by rw [hnm]; simp [k1]
       have n2 : e.label = (q.1.label : Int) := by rw [hlb]; simp [k1]
       unfold giveO
       rw [n1, n2, if_pos hn.1]
       simp [k1]
      rw [if_neg (fun k => k1 (hc94.mp k))]
      by_cases k3 : q.1.kind = 3
      ·rw [if_pos (hc40.mpr k3)]
       have n1 : e.name = -1 := by rw [hnm]; simp [k3]
       have hg : giveO e v s = s.1 := by unfold giveO; rw [n1]; simp
       rw [hg]
       simp only [k3]
       by_cases v0 : v.fault = 0
       ·by_cases v1 : v.num = 0
        ·simp [v0, v1, w2]
        ·simp [v0, v1, w1]
       ·simp [v0]
      ·rw [if_neg (fun k => k3 (hc40.mp k))]
       have k0 : q.1.kind = 0 := by omega
       have hn := hnn (.inl k0)
       have n1 : e.name = q.1.name := by rw [hnm]; simp [k0]
       unfold giveO
       rw [n1, if_pos hn.1]
       simp [k0]
    rw [playF_in hlt h1.over hst, w3]
    rfl
  exact key l lo f s h hf
end Go.Proofs.YtdgmoiflahoihaaGreatDoor
namespace Go.Proofs.YtdgmoiflahoihaaGreatDoor
set_option linter.unusedSimpArgs false
set_option linter.unusedVariables false
def fieldsF (C : List UInt8) (B : Nat) : Nat → Nat → Option (List Int)
 | 0, _ => none
 | f + 1, i =>
  if i < B then
   match C[i]?, C[i + 1]?, overC C i with
   | some c, some d, some o =>
    (match fieldsF C B f o with
    | some l => some (if c = 63 then ((d.toNat : Int) - 97) :: l else l)
    | none => none)
   | _, _, _ => none
  else some []
def setAll : List Int → List Int → List Vl → List Vl
 | n :: r, x :: g, vals => setAll r g (vals.set n.toNat ⟨x, 0⟩)
 | _, _, vals => vals
theorem fields_eq {C : List UInt8} {A : List Int} {B : Nat} : ∀ (l : List Hd) (i f : Nat), CutHd C A i B l → B - i < f → fieldsF C B f i = some ((l.filter (·.field)).map (·.name))
 | [], i, 0, h, hf => by omega
 | [], i, f + 1, h, hf => by
  have : i = B := h
  subst this
  unfold fieldsF
  rw [if_neg (Nat.lt_irrefl _)]
  rfl
 | a :: r, i, 0, h, hf => by omega
 | a :: r, i, f + 1, h, hf => by
  obtain ⟨hlt, o, h1, h2⟩ := h
  obtain ⟨c, hc, _, hcf⟩ := h1.byte
  obtain ⟨d, hd, hn⟩ := h1.name
  have hog := over_gt h1.over
  have hoi := (cutHd_le r o B h2).1
  unfold fieldsF
  rw [if_pos hlt, hc, hd, h1.over]
  simp only
  rw [fields_eq r o f h2 (by omega)]
  simp only
  by_cases h63 : c = 63
  ·rw [if_pos h63, List.filter_cons_of_pos (hcf.mp h63), List.map_cons, hn]
  ·have : a.field = false := by
    cases hfa : a.field
    ·rfl
    ·exact absurd (hcf.mpr hfa) h63
   rw [if_neg h63, List.filter_cons_of_neg (by simp [this])]
theorem setAll_fill : ∀ (l : List Hd) (fs : List Int) (vals : List Vl), setAll ((l.filter (·.field)).map (·.name)) fs vals = fillV l fs vals
 | [], fs, vals => by cases fs <;> rfl
 | h :: r, fs, vals => by
  cases hf : h.field
  ·rw [fillV_skip hf, List.filter_cons_of_neg (by simp [hf])]
   exact setAll_fill r fs vals
  ·rw [List.filter_cons_of_pos hf, List.map_cons]
   cases fs with
   | nil =>
    rw [fillV_none, ← setAll_fill r [] vals]
    cases (r.filter (·.field)).map (·.name) <;> rfl
   | cons x g =>
    rw [fillV_some hf]
    exact setAll_fill r g _
end Go.Proofs.YtdgmoiflahoihaaGreatDoor
