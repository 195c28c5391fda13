import Derived.Test.YtdgmoiflahoihaaGreatDoorRValw

namespace Go.Proofs.YtdgmoiflahoihaaGreatDoor
open Go.RowKit
set_option linter.unusedSimpArgs false
set_option linter.unusedVariables false
def DoCalls (n : Nat) : Prop := ∀ (b : Nat) (S : Nat → Prop) (s : SR) (l : List (RT n)) (P : Nat → Prop) (v : Value) (w : World), TreeOk n l → NumsOk n l → StOk s → s.2.length + workS n l ≤ 100000 → StateAt w b S s → RulesV n w P v l → (∀ k, P k → k < b) → (∀ k, S k → b < k) →
 Calls Tryz.prog 68 #[.pointer (some ⟨b, 0, none⟩), v] w fun e w' => e = .returned (.tuple #[]) ∧ StepAt b S w w' (doF n s l)
theorem rulesV_lower {n b : Nat} {w w' : World} {P : Nat → Prop} {v : Value} {l : List (RT n)} (h : RulesV n w P v l) (hP : ∀ k, P k → k < b) (hb : Below b w w') : RulesV n w' P v l :=
 rulesV_frame (fun k hk hl => ⟨hk, hb.block k (hP k hk)⟩) n v l h
theorem partsV_lower {b : Nat} {w w' : World} {P : Nat → Prop} {v : Value} {l : List Pt} (h : PartsV w P v l) (hP : ∀ k, P k → k < b) (hb : Below b w w') : PartsV w' P v l :=
 partsV_frame h (fun k hk hl => ⟨hk, hb.block k (hP k hk)⟩)
theorem res_drew {W w5 : World} {t : TypeId} (h : Below (W.alloc (.cells #[.int .i64 0, .int .i64 0] t)).drew.heap.size (W.alloc (.cells #[.int .i64 0, .int .i64 0] t)).drew w5) :
  w5.cell? ⟨W.heap.size, 0, none⟩ = some (.int .i64 0) ∧ w5.cell? ⟨W.heap.size, 1, none⟩ = some (.int .i64 0) ∧ (∀ o, w5.frozen? ⟨W.heap.size, o, none⟩ = false) ∧ Below W.heap.size W w5 :=
 res_below (w := W) (t := t) (w1 := w5) ⟨h.os, h.tape, h.output, h.size, h.block⟩
theorem below_undrew {W w5 : World} (h : Below W.drew.heap.size W.drew w5) : Below W.heap.size W w5 := ⟨h.os, h.tape, h.output, h.size, h.block⟩
theorem held_of {W V : World} {b g : Nat} {cs : List Value} {u : Value} (h1 : W.rangeAt b 0 cs) (h2 : W.cell? ⟨g, 5, none⟩ = some u) (e1 : V.heap[b]? = W.heap[b]?) (e2 : V.heap[g]? = W.heap[g]?) : V.rangeAt b 0 cs ∧ V.cell? ⟨g, 5, none⟩ = some u :=
 ⟨fun j v hv => (World.cell?_of_block (a := ⟨b, 0 + j, none⟩) e1).trans (h1 j v hv), (World.cell?_of_block (a := ⟨g, 5, none⟩) e2).trans h2⟩
set_option maxRecDepth 100000 in
set_option maxHeartbeats 2000000 in
theorem choose_step (n : Nat) (ih : DoCalls n) (b : Nat) (S : Nat → Prop) (s : SR) (q : Core × List (RT n) × List (RT n)) (P : Nat → Prop) (ve v1 v2 : Value) (w : World) (hk3 : q.1.kind = 3) (hc : CoreOk q.1) (h1 : TreeOk n q.2.1) (h2 : TreeOk n q.2.2) (hp : ∀ p ∈ q.1.parts, PtNum p) (m1 : NumsOk n q.2.1) (m2 : NumsOk n q.2.2) (hs : StOk s)
  (hw : s.2.length + workT (workS n) q ≤ 100000) (hS : StateAt w b S s) (hve : PartsV w P ve q.1.parts) (hr1 : RulesV n w P v1 q.2.1) (hr2 : RulesV n w P v2 q.2.2) (hP : ∀ k, P k → k < b) (hSb : ∀ k, S k → b < k) :
  Calls Tryz.prog 137 #[.pointer (some ⟨b, 0, none⟩), .agg #[.int .i64 q.1.kind, .int .i64 q.1.place, .int .i64 q.1.name, .int .i64 q.1.label, .int .i64 q.1.count, ve, v1, v2]] w fun e w' => e = .returned (.tuple #[]) ∧ StepAt b S w w' (doT (doF n) s q) := by
 obtain ⟨c, l1, l2⟩ := q
 simp only at *
 have hlw := hS.lt
 have hwk : workT (workS n) (c, l1, l2) = 1 + c.parts.length + workS n l1 + workS n l2 := by unfold workT; rw [if_neg (by simp only; omega)]
 have hD : doT (doF n) s (c, l1, l2) = if (valueV s.1 c.parts).fault ≠ 0 then s else if (valueV s.1 c.parts).num ≠ 0 then doF n s l1 else doF n s l2 := by unfold doT; simp [hk3]
 rw [hD]
 obtain ⟨ae, ne, ce, hvee⟩ : ∃ aa nn cc, ve = .slice aa nn cc := by
  rcases Joins.ownsRow_forms hve.1 with ⟨rfl, _⟩ | ⟨g, cap, rfl⟩ <;> exact ⟨_, _, _, rfl⟩
 subst hvee
 obtain ⟨a1, n1, c1, hv1⟩ := rulesV_form hr1
 obtain ⟨a2, n2, c2, hv2⟩ := rulesV_form hr2
 have hEV : v1 = .slice a1 n1 c1 ∧ v2 = .slice a2 n2 c2 := ⟨hv1, hv2⟩
 clear hv1 hv2
 obtain ⟨rfl, rfl⟩ := hEV
 generalize hW : w.alloc (.cells #[.int .i64 c.kind, .int .i64 c.place, .int .i64 c.name, .int .i64 c.label, .int .i64 c.count, .slice ae ne ce, .slice a1 n1 c1, .slice a2 n2 c2] 149) = W
 have HWe : Hid _ := hW
 have hBB : Below w.heap.size w W := by rw [← hW]; exact (Below.refl _ _).alloc (Nat.le_refl _) _
 have hSW : StateAt W b S s := hS.keep hBB (Nat.le_refl _)
 have hWs : W.heap.size = w.heap.size + 1 := by rw [← hW]; simp
 have q5 : W.cell? ⟨w.heap.size, 5, none⟩ = some (.slice ae ne ce) := by rw [← hW]; simp [go_sem]
 have q6 : W.cell? ⟨w.heap.size, 6, none⟩ = some (.slice a1 n1 c1) := by rw [← hW]; simp [go_sem]
 have q7 : W.cell? ⟨w.heap.size, 7, none⟩ = some (.slice a2 n2 c2) := by rw [← hW]; simp [go_sem]
 have HVE : Hid (PartsV W P (.slice ae ne ce) c.parts) := partsV_below hve hBB
 have HR1 : Hid (RulesV n W P (.slice a1 n1 c1) l1) := rulesV_below hr1 hBB
 have HR2 : Hid (RulesV n W P (.slice a2 n2 c2) l2) := rulesV_below hr2 hBB
 have hra := hSW.range hs.len
 have HSW : Hid (StateAt W b S s) := hSW
 have HBW : Hid (Below w.heap.size w W) := hBB
 have HS : Hid (StOk s) := hs
 have HC : Hid (CoreOk c) := hc
 have H1 : Hid (TreeOk n l1) := h1
 have H2 : Hid (TreeOk n l2) := h2
 have M1 : Hid (NumsOk n l1) := m1
 have M2 : Hid (NumsOk n l2) := m2
 have HP : Hid (∀ k, P k → k < b) := hP
 have HSB : Hid (∀ k, S k → b < k) := hSb
 have HPN : Hid (∀ p ∈ c.parts, PtNum p) := hp
 have IH : Hid (DoCalls n) := ih
 have hu := Tryz.underlying102
 have hi : (Tryz.prog.info? 102).map (fun i => i.size) = some (vlCells s.1).length := by rw [infoVals, vlCells_len, hs.len]
 have hltW : w.heap.size < W.heap.size := by omega
 have hblW : b < W.heap.size := by omega
 have hne : ¬ w.heap.size = W.heap.size := by omega
 have hne2 : ¬ b = W.heap.size := by omega
 have HSV : Hid (∀ V : World, V.heap[b]? = W.heap[b]? → V.heap[w.heap.size]? = W.heap[w.heap.size]? → V.rangeAt b 0 (vlCells s.1) ∧ V.cell? ⟨w.heap.size, 5, none⟩ = some (.slice ae ne ce)) := fun V e1 e2 => held_of hra q5 e1 e2
 generalize hx : valueV s.1 c.parts = x at *
 have HX : Hid (valueV s.1 c.parts = x) := hx
 generalize hres : (if x.fault ≠ 0 then s else if x.num ≠ 0 then doF n s l1 else doF n s l2) = res at *
 have HRES : Hid _ := hres
 clear hve hr1 hr2 hS hs hc h1 h2 hp m1 m2 hP hSb ih hSW hBB hW hx hD hres hWs hk3
 go_enter Tryz.func137, Tryz.ntmps137
 go_upto_region 1 with fail
 rw [HWe.out]
 go_cut [4] from 4 to 27 (fun y wx => ∃ g4, y = .pointer (some ⟨g4, 0, none⟩) ∧ Below W.heap.size W wx ∧ wx.cell? ⟨g4, 0, none⟩ = some (.int .i64 x.num) ∧ wx.cell? ⟨g4, 1, none⟩ = some (.int .i64 x.fault))
 case first =>
  go_region_held3 (fun w' => w'.rangeAt b 0 (vlCells s.1) ∧ w'.cell? ⟨w.heap.size, 5, none⟩ = some (.slice ae ne ce)) (first | exact HSV.out _ rfl rfl | exact HSV.out _ (hb5.block _ hblW) (hb5.block _ hltW) | exact HSV.out _ ((Below.heap_alloc _ _ _ (Nat.lt_of_lt_of_le hblW hb5.size)).trans (hb5.block _ hblW)) ((Below.heap_alloc _ _ _ (Nat.lt_of_lt_of_le hltW hb5.size)).trans (hb5.block _ hltW)) | exact HSV.out _ (Below.heap_alloc _ _ _ hblW) (Below.heap_alloc _ _ _ hltW) | exact HSV.out _ ((hb5.block _ (by simp; omega)).trans (Below.heap_alloc _ _ _ hblW)) ((hb5.block _ (by simp; omega)).trans (Below.heap_alloc _ _ _ hltW)) | exact HSV.out _ (((Below.heap_setCell _ _ _ _ (by simp only; omega)).trans (Below.heap_setCell _ _ _ _ (by simp only; omega))).trans ((hb5.block _ (by simp; omega)).trans (Below.heap_alloc _ _ _ hblW))) (((Below.heap_setCell _ _ _ _ (by simp only; omega)).trans (Below.heap_setCell _ _ _ _ (by simp only; omega))).trans ((hb5.block _ (by simp; omega)).trans (Below.heap_alloc _ _ _ hltW)))) ((go_at_call 135; refine (valueOf_any c.parts s.1 P _ _ HS.out.len HS.out.ok HC.out.few HC.out.parts HPN.out (partsV_below HVE.out (by first | exact (Below.refl _ _).drew | exact ((Below.refl _ _).alloc (Nat.le_refl _) _).drew))).mono ?_; rintro x1 w5 ⟨rfl, hb5⟩; rw [HX.out]; (first | (have zz := res_drew (W := W) (t := 59) hb5; obtain ⟨z0, z1, zf, zb⟩ := zz) | skip)))
  all_goals (go_wp2_with fail; go_meet)
  ·refine ⟨w5.heap.size, rfl, ?_, by simp [go_sem], by simp [go_sem]⟩
   exact (below_undrew hb5).alloc (below_undrew hb5).size _
  ·exact ⟨W.heap.size, rfl, (zb.setCell (Nat.le_refl _) _).setCell (Nat.le_refl _) _, by simp [go_sem, z0, z1], by simp [go_sem, z0, z1]⟩
 case rest =>
  obtain ⟨g4, rfl, hbx, y0, y1⟩ := hcut
  have HSX : Hid (StateAt wc b S s) := HSW.out.keep hbx (Nat.le_refl _)
  have HR1x : Hid (RulesV n wc P (.slice a1 n1 c1) l1) := rulesV_below HR1.out hbx
  have HR2x : Hid (RulesV n wc P (.slice a2 n2 c2) l2) := rulesV_below HR2.out hbx
  have HBX : Hid (Below w.heap.size w wc) := HBW.out.trans (hbx.mono (by omega))
  rw [← hbx.cell (p := ⟨w.heap.size, 6, none⟩) hltW] at q6
  rw [← hbx.cell (p := ⟨w.heap.size, 7, none⟩) hltW] at q7
  clear hbx HSW HR1 HR2 HBW HVE q5 hra hu hi HSV
  by_cases f0 : x.fault = 0
  ·have tf : (x.fault != 0) = false := by simp [f0]
   rw [f0] at y1
   by_cases n0 : x.num = 0
   ·have HE : Hid (doF n s l2 = res) := by have := HRES.out; show _ = _; rw [← this]; simp [f0, n0]
    rw [n0] at y0
    clear HRES
    go_wp2_with fail
    refine (IH.out b S s l2 P _ _ H2.out M2.out HS.out (by omega) HSX.out HR2x.out HP.out HSB.out).mono ?_
    rw [HE.out]
    rintro e w6 ⟨rfl, hs6⟩
    go_wp2_with fail
    go_end0
    exact ⟨rfl, hs6.pre HBX.out⟩
   ·have HE : Hid (doF n s l1 = res) := by have := HRES.out; show _ = _; rw [← this]; simp [f0, n0]
    have tn : (x.num != 0) = true := by simpa using n0
    clear HRES
    go_wp2_with fail
    refine (IH.out b S s l1 P _ _ H1.out M1.out HS.out (by omega) HSX.out HR1x.out HP.out HSB.out).mono ?_
    rw [HE.out]
    rintro e w6 ⟨rfl, hs6⟩
    go_wp2_with fail
    go_end0
    exact ⟨rfl, hs6.pre HBX.out⟩
  ·have HE : Hid (s = res) := by have := HRES.out; show _ = _; rw [← this]; simp [f0]
   have tf : (x.fault != 0) = true := by simpa using f0
   clear HRES
   go_wp2_with fail
   have hse := HE.out
   subst hse
   exact bodyPost_ret (v := .tuple #[]) (by simp [results, Tryz.results137, go_sem]) rfl ⟨rfl, StepAt.still HSX.out HBX.out⟩
end Go.Proofs.YtdgmoiflahoihaaGreatDoor
namespace Go.Proofs.YtdgmoiflahoihaaGreatDoor
open Go.RowKit
set_option linter.unusedSimpArgs false
set_option linter.unusedVariables false
theorem Onto.more {b : Nat} {S R : Nat → Prop} {w w' : World} (h : Onto b S w w') (hs : ∀ k, S k → R k) : Onto b R w w' := ⟨h.os, h.tape, h.output, h.size, fun k hk hb hr => h.block k hk hb (fun e => hr (hs k e))⟩
theorem StepAt.more {b : Nat} {S R : Nat → Prop} {w w' : World} {s : SR} (h : StepAt b S w w' s) (hs : ∀ k, S k → R k) : StepAt b R w w' s :=
 ⟨h.state.weak (fun k hk _ _ => by rcases hk with hk | hk; exact .inl (hs k hk); exact .inr hk), h.onto.more hs⟩
set_option maxRecDepth 100000 in
set_option maxHeartbeats 2000000 in
theorem do_give (n : Nat) (b : Nat) (S : Nat → Prop) (s : SR) (q : Core × List (RT n) × List (RT n)) (P : Nat → Prop) (ve v1 v2 : Value) (w : World) (hc : CoreOk q.1) (h1 : TreeOk n q.2.1) (h2 : TreeOk n q.2.2) (hp : ∀ p ∈ q.1.parts, PtNum p) (m1 : NumsOk n q.2.1) (m2 : NumsOk n q.2.2) (hs : StOk s)
  (hw : s.2.length + workT (workS n) q ≤ 100000) (hS : StateAt w b S s) (hve : PartsV w P ve q.1.parts) (hr1 : RulesV n w P v1 q.2.1) (hr2 : RulesV n w P v2 q.2.2) (hP : ∀ k, P k → k < b) (hSb : ∀ k, S k → b < k) (hk : q.1.kind = 0) :
  Calls Tryz.prog 101 #[.pointer (some ⟨b, 0, none⟩), .agg #[.int .i64 q.1.kind, .int .i64 q.1.place, .int .i64 q.1.name, .int .i64 q.1.label, .int .i64 q.1.count, ve, v1, v2]] w fun e w' => e = .returned (.tuple #[]) ∧ StepAt b S w w' (doT (doF n) s q) := by
 obtain ⟨c, l1, l2⟩ := q
 simp only at *
 have hlw := hS.lt
 obtain ⟨ae, ne, ce, hvee⟩ : ∃ aa nn cc, ve = .slice aa nn cc := by
  rcases Joins.ownsRow_forms hve.1 with ⟨rfl, _⟩ | ⟨g, cap, rfl⟩ <;> exact ⟨_, _, _, rfl⟩
 subst hvee
 obtain ⟨a1, n1, c1, hv1⟩ := rulesV_form hr1
 obtain ⟨a2, n2, c2, hv2⟩ := rulesV_form hr2
 have hEV : v1 = .slice a1 n1 c1 ∧ v2 = .slice a2 n2 c2 := ⟨hv1, hv2⟩
 clear hv1 hv2
 obtain ⟨rfl, rfl⟩ := hEV
 generalize hW : w.alloc (.cells #[.int .i64 c.kind, .int .i64 c.place, .int .i64 c.name, .int .i64 c.label, .int .i64 c.count, .slice ae ne ce, .slice a1 n1 c1, .slice a2 n2 c2] 149) = W
 have HWe : Hid _ := hW
 have hBB : Below w.heap.size w W := by rw [← hW]; exact (Below.refl _ _).alloc (Nat.le_refl _) _
 have hSW : StateAt W b S s := hS.keep hBB (Nat.le_refl _)
 have hWs : W.heap.size = w.heap.size + 1 := by rw [← hW]; simp
 have q0 : W.cell? ⟨w.heap.size, 0, none⟩ = some (.int .i64 c.kind) := by rw [← hW]; simp [go_sem]
 have q1 : W.cell? ⟨w.heap.size, 1, none⟩ = some (.int .i64 c.place) := by rw [← hW]; simp [go_sem]
 have q2 : W.cell? ⟨w.heap.size, 2, none⟩ = some (.int .i64 c.name) := by rw [← hW]; simp [go_sem]
 have q3 : W.cell? ⟨w.heap.size, 3, none⟩ = some (.int .i64 c.label) := by rw [← hW]; simp [go_sem]
 have q4 : W.cell? ⟨w.heap.size, 4, none⟩ = some (.int .i64 c.count) := by rw [← hW]; simp [go_sem]
 have q5 : W.cell? ⟨w.heap.size, 5, none⟩ = some (.slice ae ne ce) := by rw [← hW]; simp [go_sem]
 have q6 : W.cell? ⟨w.heap.size, 6, none⟩ = some (.slice a1 n1 c1) := by rw [← hW]; simp [go_sem]
 have q7 : W.cell? ⟨w.heap.size, 7, none⟩ = some (.slice a2 n2 c2) := by rw [← hW]; simp [go_sem]
 have HVE : Hid (PartsV W P (.slice ae ne ce) c.parts) := partsV_below hve hBB
 have HR1 : Hid (RulesV n W P (.slice a1 n1 c1) l1) := rulesV_below hr1 hBB
 have HR2 : Hid (RulesV n W P (.slice a2 n2 c2) l2) := rulesV_below hr2 hBB
 have hra := hSW.range hs.len
 have HSW : Hid (StateAt W b S s) := hSW
 have HBW : Hid (Below w.heap.size w W) := hBB
 have HS : Hid (StOk s) := hs
 have HC : Hid (CoreOk c) := hc
 have H1 : Hid (TreeOk n l1) := h1
 have H2 : Hid (TreeOk n l2) := h2
 have M1 : Hid (NumsOk n l1) := m1
 have M2 : Hid (NumsOk n l2) := m2
 have HP : Hid (∀ k, P k → k < b) := hP
 have HSB : Hid (∀ k, S k → b < k) := hSb
 have HPN : Hid (∀ p ∈ c.parts, PtNum p) := hp
 have hu := Tryz.underlying102
 have hi : (Tryz.prog.info? 102).map (fun i => i.size) = some (vlCells s.1).length := by rw [infoVals, vlCells_len, hs.len]
 have hltW : w.heap.size < W.heap.size := by omega
 have hblW : b < W.heap.size := by omega
 have hne : ¬ w.heap.size = W.heap.size := by omega
 have hne2 : ¬ b = W.heap.size := by omega
 have HSV : Hid (∀ V : World, V.heap[b]? = W.heap[b]? → V.heap[w.heap.size]? = W.heap[w.heap.size]? → V.rangeAt b 0 (vlCells s.1) ∧ V.cell? ⟨w.heap.size, 5, none⟩ = some (.slice ae ne ce)) := fun V e1 e2 => held_of hra q5 e1 e2
 generalize hx : valueV s.1 c.parts = x
 have HX : Hid (valueV s.1 c.parts = x) := hx
 generalize hres : doT (doF n) s (c, l1, l2) = res at *
 have HRES : Hid (doT (doF n) s (c, l1, l2) = res) := hres
 have hVO : VlOk x := by rw [← hx]; exact valueV_ok hs.ok hp
 clear hve hr1 hr2 hS hs hc h1 h2 hp m1 m2 hP hSb hSW hBB hW hx hres hWs
 obtain ⟨n0, n1'⟩ := HC.out.name (.inl hk)
 have HE : Hid ((s.1.set c.name.toNat x, s.2) = res) := by have := HRES.out; show _ = _; rw [← this]; unfold doT; simp [hk, HX.out]
 clear HRES
 rw [hk] at q0
 have HK : Hid (c.kind = 0) := hk
 clear hk
 generalize hnm : c.name = nm at *
 obtain ⟨nn, rfl⟩ : ∃ nn : Nat, nm = nn := ⟨nm.toNat, by omega⟩
 rw [Int.toNat_natCast] at HE
 have HNM : Hid (c.name = (nn : Int)) := hnm
 clear hnm
 have hnn : nn < 26 := by omega
 go_enter Tryz.func101, Tryz.ntmps101
 go_upto_region 1 with fail
 rw [HWe.out]
 go_upto_region 3 with fail
 go_cut [4] from 4 to 75 (fun y wx => ∃ g4, y = .pointer (some ⟨g4, 0, none⟩) ∧ Below W.heap.size W wx ∧ wx.cell? ⟨g4, 0, none⟩ = some (.int .i64 x.num) ∧ wx.cell? ⟨g4, 1, none⟩ = some (.int .i64 x.fault) ∧ W.heap.size ≤ g4)
 case first =>
  go_region_held3 (fun w' => w'.rangeAt b 0 (vlCells s.1) ∧ w'.cell? ⟨w.heap.size, 5, none⟩ = some (.slice ae ne ce)) (first | exact HSV.out _ rfl rfl | exact HSV.out _ (hb5.block _ hblW) (hb5.block _ hltW) | exact HSV.out _ ((Below.heap_alloc _ _ _ (Nat.lt_of_lt_of_le hblW hb5.size)).trans (hb5.block _ hblW)) ((Below.heap_alloc _ _ _ (Nat.lt_of_lt_of_le hltW hb5.size)).trans (hb5.block _ hltW)) | exact HSV.out _ (Below.heap_alloc _ _ _ hblW) (Below.heap_alloc _ _ _ hltW) | exact HSV.out _ ((hb5.block _ (by simp; omega)).trans (Below.heap_alloc _ _ _ hblW)) ((hb5.block _ (by simp; omega)).trans (Below.heap_alloc _ _ _ hltW)) | exact HSV.out _ (((Below.heap_setCell _ _ _ _ (by simp only; omega)).trans (Below.heap_setCell _ _ _ _ (by simp only; omega))).trans ((hb5.block _ (by simp; omega)).trans (Below.heap_alloc _ _ _ hblW))) (((Below.heap_setCell _ _ _ _ (by simp only; omega)).trans (Below.heap_setCell _ _ _ _ (by simp only; omega))).trans ((hb5.block _ (by simp; omega)).trans (Below.heap_alloc _ _ _ hltW)))) ((go_at_call 135; refine (valueOf_any c.parts s.1 P _ _ HS.out.len HS.out.ok HC.out.few HC.out.parts HPN.out (partsV_below HVE.out (by first | exact (Below.refl _ _).drew | exact ((Below.refl _ _).alloc (Nat.le_refl _) _).drew))).mono ?_; rintro x1 w5 ⟨rfl, hb5⟩; rw [HX.out]; (first | (have zz := res_drew (W := W) (t := 59) hb5; obtain ⟨z0, z1, zf, zb⟩ := zz) | skip)))
  all_goals (go_wp2_with fail; go_meet)
  ·refine ⟨w5.heap.size, rfl, ?_, by simp [go_sem], by simp [go_sem], (below_undrew hb5).size⟩
   exact (below_undrew hb5).alloc (below_undrew hb5).size _
  ·exact ⟨W.heap.size, rfl, (zb.setCell (Nat.le_refl _) _).setCell (Nat.le_refl _) _, by simp [go_sem, z0, z1], by simp [go_sem, z0, z1], Nat.le_refl _⟩
 case rest =>
  obtain ⟨g4, rfl, hbx, y0, y1, hg4⟩ := hcut
  have hSX : StateAt wc b S s := HSW.out.keep hbx (Nat.le_refl _)
  have HBX : Hid (Below w.heap.size w wc) := HBW.out.trans (hbx.mono (by omega))
  rw [← hbx.cell (p := ⟨w.heap.size, 2, none⟩) hltW] at q2
  clear hbx HSW HR1 HR2 HBW HVE q0 q1 q3 q4 q5 q6 q7 hra hu hi HSV
  obtain ⟨e0, e1⟩ := hSX.cell nn hnn
  have fz := hSX.fz
  have HSX : Hid (StateAt wc b S s) := hSX
  clear hSX
  go_wp2_with fail
  go_region
  all_goals go_wp2_with fail
  all_goals go_end0
  all_goals refine ⟨rfl, ?_⟩
  all_goals rw [← HE.out]
  all_goals exact ⟨((HSX.out.set HS.out.len nn hnn x).drew).weak (fun k hk _ _ => .inl hk), (((Onto.of_below HBX.out).setCell _ _).setCell _ _).drew⟩
set_option maxRecDepth 100000 in
set_option maxHeartbeats 2000000 in
theorem do_open (n : Nat) (b : Nat) (S : Nat → Prop) (s : SR) (q : Core × List (RT n) × List (RT n)) (P : Nat → Prop) (ve v1 v2 : Value) (w : World) (hc : CoreOk q.1) (h1 : TreeOk n q.2.1) (h2 : TreeOk n q.2.2) (hp : ∀ p ∈ q.1.parts, PtNum p) (m1 : NumsOk n q.2.1) (m2 : NumsOk n q.2.2) (hs : StOk s)
  (hw : s.2.length + workT (workS n) q ≤ 100000) (hS : StateAt w b S s) (hve : PartsV w P ve q.1.parts) (hr1 : RulesV n w P v1 q.2.1) (hr2 : RulesV n w P v2 q.2.2) (hP : ∀ k, P k → k < b) (hSb : ∀ k, S k → b < k) (hk : q.1.kind = 1) :
  Calls Tryz.prog 101 #[.pointer (some ⟨b, 0, none⟩), .agg #[.int .i64 q.1.kind, .int .i64 q.1.place, .int .i64 q.1.name, .int .i64 q.1.label, .int .i64 q.1.count, ve, v1, v2]] w fun e w' => e = .returned (.tuple #[]) ∧ StepAt b S w w' (doT (doF n) s q) := by
 obtain ⟨c, l1, l2⟩ := q
 simp only at *
 have hlw := hS.lt
 obtain ⟨ae, ne, ce, hvee⟩ : ∃ aa nn cc, ve = .slice aa nn cc := by
  rcases Joins.ownsRow_forms hve.1 with ⟨rfl, _⟩ | ⟨g, cap, rfl⟩ <;> exact ⟨_, _, _, rfl⟩
 subst hvee
 obtain ⟨a1, n1, c1, hv1⟩ := rulesV_form hr1
 obtain ⟨a2, n2, c2, hv2⟩ := rulesV_form hr2
 have hEV : v1 = .slice a1 n1 c1 ∧ v2 = .slice a2 n2 c2 := ⟨hv1, hv2⟩
 clear hv1 hv2
 obtain ⟨rfl, rfl⟩ := hEV
 generalize hW : w.alloc (.cells #[.int .i64 c.kind, .int .i64 c.place, .int .i64 c.name, .int .i64 c.label, .int .i64 c.count, .slice ae ne ce, .slice a1 n1 c1, .slice a2 n2 c2] 149) = W
 have HWe : Hid _ := hW
 have hBB : Below w.heap.size w W := by rw [← hW]; exact (Below.refl _ _).alloc (Nat.le_refl _) _
 have hSW : StateAt W b S s := hS.keep hBB (Nat.le_refl _)
 have hWs : W.heap.size = w.heap.size + 1 := by rw [← hW]; simp
 have q0 : W.cell? ⟨w.heap.size, 0, none⟩ = some (.int .i64 c.kind) := by rw [← hW]; simp [go_sem]
 have q1 : W.cell? ⟨w.heap.size, 1, none⟩ = some (.int .i64 c.place) := by rw [← hW]; simp [go_sem]
 have q2 : W.cell? ⟨w.heap.size, 2, none⟩ = some (.int .i64 c.name) := by rw [← hW]; simp [go_sem]
 have q3 : W.cell? ⟨w.heap.size, 3, none⟩ = some (.int .i64 c.label) := by rw [← hW]; simp [go_sem]
 have q4 : W.cell? ⟨w.heap.size, 4, none⟩ = some (.int .i64 c.count) := by rw [← hW]; simp [go_sem]
 have q5 : W.cell? ⟨w.heap.size, 5, none⟩ = some (.slice ae ne ce) := by rw [← hW]; simp [go_sem]
 have q6 : W.cell? ⟨w.heap.size, 6, none⟩ = some (.slice a1 n1 c1) := by rw [← hW]; simp [go_sem]
 have q7 : W.cell? ⟨w.heap.size, 7, none⟩ = some (.slice a2 n2 c2) := by rw [← hW]; simp [go_sem]
 have HVE : Hid (PartsV W P (.slice ae ne ce) c.parts) := partsV_below hve hBB
 have HR1 : Hid (RulesV n W P (.slice a1 n1 c1) l1) := rulesV_below hr1 hBB
 have HR2 : Hid (RulesV n W P (.slice a2 n2 c2) l2) := rulesV_below hr2 hBB
 have hra := hSW.range hs.len
 have HSW : Hid (StateAt W b S s) := hSW
 have HBW : Hid (Below w.heap.size w W) := hBB
 have HS : Hid (StOk s) := hs
 have HC : Hid (CoreOk c) := hc
 have H1 : Hid (TreeOk n l1) := h1
 have H2 : Hid (TreeOk n l2) := h2
 have M1 : Hid (NumsOk n l1) := m1
 have M2 : Hid (NumsOk n l2) := m2
 have HP : Hid (∀ k, P k → k < b) := hP
 have HSB : Hid (∀ k, S k → b < k) := hSb
 have HPN : Hid (∀ p ∈ c.parts, PtNum p) := hp
 have hu := Tryz.underlying102
 have hi : (Tryz.prog.info? 102).map (fun i => i.size) = some (vlCells s.1).length := by rw [infoVals, vlCells_len, hs.len]
 have hltW : w.heap.size < W.heap.size := by omega
 have hblW : b < W.heap.size := by omega
 have hne : ¬ w.heap.size = W.heap.size := by omega
 have hne2 : ¬ b = W.heap.size := by omega
 have HSV : Hid (∀ V : World, V.heap[b]? = W.heap[b]? → V.heap[w.heap.size]? = W.heap[w.heap.size]? → V.rangeAt b 0 (vlCells s.1) ∧ V.cell? ⟨w.heap.size, 5, none⟩ = some (.slice ae ne ce)) := fun V e1 e2 => held_of hra q5 e1 e2
 generalize hx : valueV s.1 c.parts = x
 have HX : Hid (valueV s.1 c.parts = x) := hx
 generalize hres : doT (doF n) s (c, l1, l2) = res at *
 have HRES : Hid (doT (doF n) s (c, l1, l2) = res) := hres
 have hVO : VlOk x := by rw [← hx]; exact valueV_ok hs.ok hp
 clear hve hr1 hr2 hS hs hc h1 h2 hp m1 m2 hP hSb hSW hBB hW hx hres hWs
 obtain ⟨n0, n1'⟩ := HC.out.name (.inr hk)
 have HE : Hid ((s.1.set c.name.toNat x, s.2 ++ [⟨1, c.place, c.label, x⟩]) = res) := by have := HRES.out; show _ = _; rw [← this]; unfold doT; simp [hk, HX.out]
 clear HRES
 have hlen : s.2.length ≤ 100000 := by omega
 have HK : Hid (c.kind = 1) := hk
 have hk1 : (c.kind == 0) = false := by simp [hk]
 have hk2 : (c.kind == 1) = true := by simp [hk]
 clear hk
 generalize hnm : c.name.toNat = nn at *
 have hnn : nn < 26 := by omega
 have hnm2 : c.name = (nn : Int) := by omega
 rw [hnm2] at q2
 have HNM : Hid (c.name = (nn : Int)) := hnm2
 clear hnm hnm2 n0 n1'
 go_enter Tryz.func101, Tryz.ntmps101
 go_upto_region 1 with fail
 rw [HWe.out]
 go_upto_region 6 with fail
 go_cut [5] from 4 to 75 (fun y wx => ∃ g4, y = .pointer (some ⟨g4, 0, none⟩) ∧ Below W.heap.size W wx ∧ wx.cell? ⟨g4, 0, none⟩ = some (.int .i64 x.num) ∧ wx.cell? ⟨g4, 1, none⟩ = some (.int .i64 x.fault) ∧ W.heap.size ≤ g4)
 case first =>
  go_region_held3 (fun w' => w'.rangeAt b 0 (vlCells s.1) ∧ w'.cell? ⟨w.heap.size, 5, none⟩ = some (.slice ae ne ce)) (first | exact HSV.out _ rfl rfl | exact HSV.out _ (hb5.block _ hblW) (hb5.block _ hltW) | exact HSV.out _ ((Below.heap_alloc _ _ _ (Nat.lt_of_lt_of_le hblW hb5.size)).trans (hb5.block _ hblW)) ((Below.heap_alloc _ _ _ (Nat.lt_of_lt_of_le hltW hb5.size)).trans (hb5.block _ hltW)) | exact HSV.out _ (Below.heap_alloc _ _ _ hblW) (Below.heap_alloc _ _ _ hltW) | exact HSV.out _ ((hb5.block _ (by simp; omega)).trans (Below.heap_alloc _ _ _ hblW)) ((hb5.block _ (by simp; omega)).trans (Below.heap_alloc _ _ _ hltW)) | exact HSV.out _ (((Below.heap_setCell _ _ _ _ (by simp only; omega)).trans (Below.heap_setCell _ _ _ _ (by simp only; omega))).trans ((hb5.block _ (by simp; omega)).trans (Below.heap_alloc _ _ _ hblW))) (((Below.heap_setCell _ _ _ _ (by simp only; omega)).trans (Below.heap_setCell _ _ _ _ (by simp only; omega))).trans ((hb5.block _ (by simp; omega)).trans (Below.heap_alloc _ _ _ hltW)))) ((go_at_call 135; refine (valueOf_any c.parts s.1 P _ _ HS.out.len HS.out.ok HC.out.few HC.out.parts HPN.out (partsV_below HVE.out (by first | exact (Below.refl _ _).drew | exact ((Below.refl _ _).alloc (Nat.le_refl _) _).drew))).mono ?_; rintro x1 w5 ⟨rfl, hb5⟩; rw [HX.out]; (first | (have zz := res_drew (W := W) (t := 59) hb5; obtain ⟨z0, z1, zf, zb⟩ := zz) | skip)))
  all_goals (go_wp2_with fail; go_meet)
  ·refine ⟨w5.heap.size, rfl, ?_, by simp [go_sem], by simp [go_sem], (below_undrew hb5).size⟩
   exact (below_undrew hb5).alloc (below_undrew hb5).size _
  ·exact ⟨W.heap.size, rfl, (zb.setCell (Nat.le_refl _) _).setCell (Nat.le_refl _) _, by simp [go_sem, z0, z1], by simp [go_sem, z0, z1], Nat.le_refl _⟩
 case rest =>
  obtain ⟨g4, rfl, hbx, y0, y1, hg4⟩ := hcut
  have hSX : StateAt wc b S s := HSW.out.keep hbx (Nat.le_refl _)
  have HBX : Hid (Below w.heap.size w wc) := HBW.out.trans (hbx.mono (by omega))
  rw [← hbx.cell (p := ⟨w.heap.size, 0, none⟩) hltW] at q0
  rw [← hbx.cell (p := ⟨w.heap.size, 1, none⟩) hltW] at q1
  rw [← hbx.cell (p := ⟨w.heap.size, 2, none⟩) hltW] at q2
  rw [← hbx.cell (p := ⟨w.heap.size, 3, none⟩) hltW] at q3
  rw [← hbx.cell (p := ⟨w.heap.size, 4, none⟩) hltW] at q4
  rw [← hbx.cell (p := ⟨w.heap.size, 5, none⟩) hltW] at q5
  rw [← hbx.cell (p := ⟨w.heap.size, 6, none⟩) hltW] at q6
  rw [← hbx.cell (p := ⟨w.heap.size, 7, none⟩) hltW] at q7
  clear hbx HSW HR1 HR2 HBW HVE hra hu hi HSV
  obtain ⟨e0, e1⟩ := hSX.cell nn hnn
  have fz := hSX.fz
  have HSX : Hid (StateAt wc b S s) := hSX
  have hbw : ¬ b = w.heap.size := by omega
  have hbw2 : ¬ w.heap.size = b := by omega
  have hbg : ¬ b = g4 := by omega
  have hbg2 : ¬ g4 = b := by omega
  have HSV2 : Hid (StateAt ((wc.setCell ⟨b, nn * 2, none⟩ (.int .i64 x.num)).setCell ⟨b, nn * 2 + 1, none⟩ (.int .i64 x.fault)).drew b S (s.1.set nn x, s.2)) := (hSX.set HS.out.len nn hnn x).drew
  have HBV : Hid (Onto b S w ((wc.setCell ⟨b, nn * 2, none⟩ (.int .i64 x.num)).setCell ⟨b, nn * 2 + 1, none⟩ (.int .i64 x.fault)).drew) := (((Onto.of_below HBX.out).setCell _ _).setCell _ _).drew
  clear hSX
  go_wp2_with fail
  go_region
  go_wp2_with fail
  refine (leave_any b (s.1.set nn x, s.2) 1 ⟨c.kind, c.place, nn, c.label, c.count, c.parts⟩ _ _ _ x _ S HSV2.out (by simpa using hlen)).mono ?_
  rintro e w6 ⟨rfl, hs6⟩
  go_wp2_with fail
  go_end0
  rw [← HE.out]
  exact ⟨rfl, StepAt.trans ⟨HSV2.out.weak (fun k hk _ _ => .inl hk), HBV.out⟩ (hs6.more (fun k hk => .inl hk))⟩
set_option maxRecDepth 100000 in
set_option maxHeartbeats 2000000 in
theorem do_tell (n : Nat) (b : Nat) (S : Nat → Prop) (s : SR) (q : Core × List (RT n) × List (RT n)) (P : Nat → Prop) (ve v1 v2 : Value) (w : World) (hc : CoreOk q.1) (h1 : TreeOk n q.2.1) (h2 : TreeOk n q.2.2) (hp : ∀ p ∈ q.1.parts, PtNum p) (m1 : NumsOk n q.2.1) (m2 : NumsOk n q.2.2) (hs : StOk s)
  (hw : s.2.length + workT (workS n) q ≤ 100000) (hS : StateAt w b S s) (hve : PartsV w P ve q.1.parts) (hr1 : RulesV n w P v1 q.2.1) (hr2 : RulesV n w P v2 q.2.2) (hP : ∀ k, P k → k < b) (hSb : ∀ k, S k → b < k) (hk : q.1.kind = 2) :
  Calls Tryz.prog 101 #[.pointer (some ⟨b, 0, none⟩), .agg #[.int .i64 q.1.kind, .int .i64 q.1.place, .int .i64 q.1.name, .int .i64 q.1.label, .int .i64 q.1.count, ve, v1, v2]] w fun e w' => e = .returned (.tuple #[]) ∧ StepAt b S w w' (doT (doF n) s q) := by
 obtain ⟨c, l1, l2⟩ := q
 simp only at *
 have hlw := hS.lt
 obtain ⟨ae, ne, ce, hvee⟩ : ∃ aa nn cc, ve = .slice aa nn cc := by
  rcases Joins.ownsRow_forms hve.1 with ⟨rfl, _⟩ | ⟨g, cap, rfl⟩ <;> exact ⟨_, _, _, rfl⟩
 subst hvee
 obtain ⟨a1, n1, c1, hv1⟩ := rulesV_form hr1
 obtain ⟨a2, n2, c2, hv2⟩ := rulesV_form hr2
 have hEV : v1 = .slice a1 n1 c1 ∧ v2 = .slice a2 n2 c2 := ⟨hv1, hv2⟩
 clear hv1 hv2
 obtain ⟨rfl, rfl⟩ := hEV
 generalize hW : w.alloc (.cells #[.int .i64 c.kind, .int .i64 c.place, .int .i64 c.name, .int .i64 c.label, .int .i64 c.count, .slice ae ne ce, .slice a1 n1 c1, .slice a2 n2 c2] 149) = W
 have HWe : Hid _ := hW
 have hBB : Below w.heap.size w W := by rw [← hW]; exact (Below.refl _ _).alloc (Nat.le_refl _) _
 have hSW : StateAt W b S s := hS.keep hBB (Nat.le_refl _)
 have hWs : W.heap.size = w.heap.size + 1 := by rw [← hW]; simp
 have q0 : W.cell? ⟨w.heap.size, 0, none⟩ = some (.int .i64 c.kind) := by rw [← hW]; simp [go_sem]
 have q1 : W.cell? ⟨w.heap.size, 1, none⟩ = some (.int .i64 c.place) := by rw [← hW]; simp [go_sem]
 have q2 : W.cell? ⟨w.heap.size, 2, none⟩ = some (.int .i64 c.name) := by rw [← hW]; simp [go_sem]
 have q3 : W.cell? ⟨w.heap.size, 3, none⟩ = some (.int .i64 c.label) := by rw [← hW]; simp [go_sem]
 have q4 : W.cell? ⟨w.heap.size, 4, none⟩ = some (.int .i64 c.count) := by rw [← hW]; simp [go_sem]
 have q5 : W.cell? ⟨w.heap.size, 5, none⟩ = some (.slice ae ne ce) := by rw [← hW]; simp [go_sem]
 have q6 : W.cell? ⟨w.heap.size, 6, none⟩ = some (.slice a1 n1 c1) := by rw [← hW]; simp [go_sem]
 have q7 : W.cell? ⟨w.heap.size, 7, none⟩ = some (.slice a2 n2 c2) := by rw [← hW]; simp [go_sem]
 have HVE : Hid (PartsV W P (.slice ae ne ce) c.parts) := partsV_below hve hBB
 have HR1 : Hid (RulesV n W P (.slice a1 n1 c1) l1) := rulesV_below hr1 hBB
 have HR2 : Hid (RulesV n W P (.slice a2 n2 c2) l2) := rulesV_below hr2 hBB
 have hra := hSW.range hs.len
 have HSW : Hid (StateAt W b S s) := hSW
 have HBW : Hid (Below w.heap.size w W) := hBB
 have HS : Hid (StOk s) := hs
 have HC : Hid (CoreOk c) := hc
 have H1 : Hid (TreeOk n l1) := h1
 have H2 : Hid (TreeOk n l2) := h2
 have M1 : Hid (NumsOk n l1) := m1
 have M2 : Hid (NumsOk n l2) := m2
 have HP : Hid (∀ k, P k → k < b) := hP
 have HSB : Hid (∀ k, S k → b < k) := hSb
 have HPN : Hid (∀ p ∈ c.parts, PtNum p) := hp
 have hu := Tryz.underlying102
 have hi : (Tryz.prog.info? 102).map (fun i => i.size) = some (vlCells s.1).length := by rw [infoVals, vlCells_len, hs.len]
 have hltW : w.heap.size < W.heap.size := by omega
 have hblW : b < W.heap.size := by omega
 have hne : ¬ w.heap.size = W.heap.size := by omega
 have hne2 : ¬ b = W.heap.size := by omega
 have HSV : Hid (∀ V : World, V.heap[b]? = W.heap[b]? → V.heap[w.heap.size]? = W.heap[w.heap.size]? → V.rangeAt b 0 (vlCells s.1) ∧ V.cell? ⟨w.heap.size, 5, none⟩ = some (.slice ae ne ce)) := fun V e1 e2 => held_of hra q5 e1 e2
 generalize hx : valueV s.1 c.parts = x
 have HX : Hid (valueV s.1 c.parts = x) := hx
 generalize hres : doT (doF n) s (c, l1, l2) = res at *
 have HRES : Hid (doT (doF n) s (c, l1, l2) = res) := hres
 have hVO : VlOk x := by rw [← hx]; exact valueV_ok hs.ok hp
 clear hve hr1 hr2 hS hs hc h1 h2 hp m1 m2 hP hSb hSW hBB hW hx hres hWs
 have HE : Hid ((s.1, s.2 ++ [⟨0, c.place, c.label, x⟩]) = res) := by have := HRES.out; show _ = _; rw [← this]; unfold doT; simp [hk, HX.out]
 clear HRES
 have hlen : s.2.length ≤ 100000 := by omega
 have hk1 : (c.kind == 0) = false := by simp [hk]
 have hk2 : (c.kind == 1) = false := by simp [hk]
 have hk3 : (c.kind == 2) = true := by simp [hk]
 clear hk
 go_enter Tryz.func101, Tryz.ntmps101
 go_upto_region 1 with fail
 rw [HWe.out]
 go_upto_region 10 with fail
 go_cut [6] from 4 to 75 (fun y wx => ∃ g4, y = .pointer (some ⟨g4, 0, none⟩) ∧ Below W.heap.size W wx ∧ wx.cell? ⟨g4, 0, none⟩ = some (.int .i64 x.num) ∧ wx.cell? ⟨g4, 1, none⟩ = some (.int .i64 x.fault) ∧ W.heap.size ≤ g4)
 case first =>
  go_region_held3 (fun w' => w'.rangeAt b 0 (vlCells s.1) ∧ w'.cell? ⟨w.heap.size, 5, none⟩ = some (.slice ae ne ce)) (first | exact HSV.out _ rfl rfl | exact HSV.out _ (hb5.block _ hblW) (hb5.block _ hltW) | exact HSV.out _ ((Below.heap_alloc _ _ _ (Nat.lt_of_lt_of_le hblW hb5.size)).trans (hb5.block _ hblW)) ((Below.heap_alloc _ _ _ (Nat.lt_of_lt_of_le hltW hb5.size)).trans (hb5.block _ hltW)) | exact HSV.out _ (Below.heap_alloc _ _ _ hblW) (Below.heap_alloc _ _ _ hltW) | exact HSV.out _ ((hb5.block _ (by simp; omega)).trans (Below.heap_alloc _ _ _ hblW)) ((hb5.block _ (by simp; omega)).trans (Below.heap_alloc _ _ _ hltW)) | exact HSV.out _ (((Below.heap_setCell _ _ _ _ (by simp only; omega)).trans (Below.heap_setCell _ _ _ _ (by simp only; omega))).trans ((hb5.block _ (by simp; omega)).trans (Below.heap_alloc _ _ _ hblW))) (((Below.heap_setCell _ _ _ _ (by simp only; omega)).trans (Below.heap_setCell _ _ _ _ (by simp only; omega))).trans ((hb5.block _ (by simp; omega)).trans (Below.heap_alloc _ _ _ hltW)))) ((go_at_call 135; refine (valueOf_any c.parts s.1 P _ _ HS.out.len HS.out.ok HC.out.few HC.out.parts HPN.out (partsV_below HVE.out (by first | exact (Below.refl _ _).drew | exact ((Below.refl _ _).alloc (Nat.le_refl _) _).drew))).mono ?_; rintro x1 w5 ⟨rfl, hb5⟩; rw [HX.out]; (first | (have zz := res_drew (W := W) (t := 59) hb5; obtain ⟨z0, z1, zf, zb⟩ := zz) | skip)))
  all_goals (go_wp2_with fail; go_meet)
  ·refine ⟨w5.heap.size, rfl, ?_, by simp [go_sem], by simp [go_sem], (below_undrew hb5).size⟩
   exact (below_undrew hb5).alloc (below_undrew hb5).size _
  ·exact ⟨W.heap.size, rfl, (zb.setCell (Nat.le_refl _) _).setCell (Nat.le_refl _) _, by simp [go_sem, z0, z1], by simp [go_sem, z0, z1], Nat.le_refl _⟩
 case rest =>
  obtain ⟨g4, rfl, hbx, y0, y1, hg4⟩ := hcut
  have hSX : StateAt wc b S s := HSW.out.keep hbx (Nat.le_refl _)
  have HBX : Hid (Below w.heap.size w wc) := HBW.out.trans (hbx.mono (by omega))
  rw [← hbx.cell (p := ⟨w.heap.size, 0, none⟩) hltW] at q0
  rw [← hbx.cell (p := ⟨w.heap.size, 1, none⟩) hltW] at q1
  rw [← hbx.cell (p := ⟨w.heap.size, 2, none⟩) hltW] at q2
  rw [← hbx.cell (p := ⟨w.heap.size, 3, none⟩) hltW] at q3
  rw [← hbx.cell (p := ⟨w.heap.size, 4, none⟩) hltW] at q4
  rw [← hbx.cell (p := ⟨w.heap.size, 5, none⟩) hltW] at q5
  rw [← hbx.cell (p := ⟨w.heap.size, 6, none⟩) hltW] at q6
  rw [← hbx.cell (p := ⟨w.heap.size, 7, none⟩) hltW] at q7
  clear hbx HSW HR1 HR2 HBW HVE hra hu hi HSV
  have HSX : Hid (StateAt wc b S s) := hSX
  clear hSX
  go_wp2_with fail
  refine (leave_any b s 0 c _ _ _ x _ S HSX.out hlen).mono ?_
  rintro e w6 ⟨rfl, hs6⟩
  go_wp2_with fail
  go_end0
  rw [← HE.out]
  exact ⟨rfl, hs6.pre HBX.out⟩
end Go.Proofs.YtdgmoiflahoihaaGreatDoor
namespace Go.Proofs.YtdgmoiflahoihaaGreatDoor
open Go.RowKit
set_option linter.unusedSimpArgs false
set_option linter.unusedVariables false
set_option maxRecDepth 100000 in
set_option maxHeartbeats 2000000 in
theorem do_cond (n : Nat) (ih : DoCalls n) (b : Nat) (S : Nat → Prop) (s : SR) (q : Core × List (RT n) × List (RT n)) (P : Nat → Prop) (ve v1 v2 : Value) (w : World) (hc : CoreOk q.1) (h1 : TreeOk n q.2.1) (h2 : TreeOk n q.2.2) (hp : ∀ p ∈ q.1.parts, PtNum p) (m1 : NumsOk n q.2.1) (m2 : NumsOk n q.2.2) (hs : StOk s)
  (hw : s.2.length + workT (workS n) q ≤ 100000) (hS : StateAt w b S s) (hve : PartsV w P ve q.1.parts) (hr1 : RulesV n w P v1 q.2.1) (hr2 : RulesV n w P v2 q.2.2) (hP : ∀ k, P k → k < b) (hSb : ∀ k, S k → b < k) (hk : q.1.kind = 3) :
  Calls Tryz.prog 101 #[.pointer (some ⟨b, 0, none⟩), .agg #[.int .i64 q.1.kind, .int .i64 q.1.place, .int .i64 q.1.name, .int .i64 q.1.label, .int .i64 q.1.count, ve, v1, v2]] w fun e w' => e = .returned (.tuple #[]) ∧ StepAt b S w w' (doT (doF n) s q) := by
 have IH : Hid (DoCalls n) := ih
 clear ih
 obtain ⟨c, l1, l2⟩ := q
 simp only at *
 have hlw := hS.lt
 obtain ⟨ae, ne, ce, hvee⟩ : ∃ aa nn cc, ve = .slice aa nn cc := by
  rcases Joins.ownsRow_forms hve.1 with ⟨rfl, _⟩ | ⟨g, cap, rfl⟩ <;> exact ⟨_, _, _, rfl⟩
 subst hvee
 obtain ⟨a1, n1, c1, hv1⟩ := rulesV_form hr1
 obtain ⟨a2, n2, c2, hv2⟩ := rulesV_form hr2
 have hEV : v1 = .slice a1 n1 c1 ∧ v2 = .slice a2 n2 c2 := ⟨hv1, hv2⟩
 clear hv1 hv2
 obtain ⟨rfl, rfl⟩ := hEV
 generalize hW : w.alloc (.cells #[.int .i64 c.kind, .int .i64 c.place, .int .i64 c.name, .int .i64 c.label, .int .i64 c.count, .slice ae ne ce, .slice a1 n1 c1, .slice a2 n2 c2] 149) = W
 have HWe : Hid _ := hW
 have hBB : Below w.heap.size w W := by rw [← hW]; exact (Below.refl _ _).alloc (Nat.le_refl _) _
 have hSW : StateAt W b S s := hS.keep hBB (Nat.le_refl _)
 have hWs : W.heap.size = w.heap.size + 1 := by rw [← hW]; simp
 have q0 : W.cell? ⟨w.heap.size, 0, none⟩ = some (.int .i64 c.kind) := by rw [← hW]; simp [go_sem]
 have q1 : W.cell? ⟨w.heap.size, 1, none⟩ = some (.int .i64 c.place) := by rw [← hW]; simp [go_sem]
 have q2 : W.cell? ⟨w.heap.size, 2, none⟩ = some (.int .i64 c.name) := by rw [← hW]; simp [go_sem]
 have q3 : W.cell? ⟨w.heap.size, 3, none⟩ = some (.int .i64 c.label) := by rw [← hW]; simp [go_sem]
 have q4 : W.cell? ⟨w.heap.size, 4, none⟩ = some (.int .i64 c.count) := by rw [← hW]; simp [go_sem]
 have q5 : W.cell? ⟨w.heap.size, 5, none⟩ = some (.slice ae ne ce) := by rw [← hW]; simp [go_sem]
 have q6 : W.cell? ⟨w.heap.size, 6, none⟩ = some (.slice a1 n1 c1) := by rw [← hW]; simp [go_sem]
 have q7 : W.cell? ⟨w.heap.size, 7, none⟩ = some (.slice a2 n2 c2) := by rw [← hW]; simp [go_sem]
 have HVE : Hid (PartsV W P (.slice ae ne ce) c.parts) := partsV_below hve hBB
 have HR1 : Hid (RulesV n W P (.slice a1 n1 c1) l1) := rulesV_below hr1 hBB
 have HR2 : Hid (RulesV n W P (.slice a2 n2 c2) l2) := rulesV_below hr2 hBB
 have HSW : Hid (StateAt W b S s) := hSW
 have HSWL : Hid (StateAt W b (fun k => S k ∧ k < w.heap.size) s) := (hS.weak (fun k hk _ hl => ⟨hk, hl⟩)).keep hBB (Nat.le_refl _)
 have HBW : Hid (Below w.heap.size w W) := hBB
 have HS : Hid (StOk s) := hs
 have HC : Hid (CoreOk c) := hc
 have H1 : Hid (TreeOk n l1) := h1
 have H2 : Hid (TreeOk n l2) := h2
 have M1 : Hid (NumsOk n l1) := m1
 have M2 : Hid (NumsOk n l2) := m2
 have HP : Hid (∀ k, P k → k < b) := hP
 have HSB : Hid (∀ k, S k → b < k) := hSb
 have HPN : Hid (∀ p ∈ c.parts, PtNum p) := hp
 have hltW : w.heap.size < W.heap.size := by omega
 have hblW : b < W.heap.size := by omega
 have hne : ¬ w.heap.size = W.heap.size := by omega
 have hne2 : ¬ b = W.heap.size := by omega
 generalize hx : valueV s.1 c.parts = x
 have HX : Hid (valueV s.1 c.parts = x) := hx
 generalize hres : doT (doF n) s (c, l1, l2) = res at *
 have HRES : Hid (doT (doF n) s (c, l1, l2) = res) := hres
 have hVO : VlOk x := by rw [← hx]; exact valueV_ok hs.ok hp
 clear hve hr1 hr2 hS hs hc h1 h2 hp m1 m2 hP hSb hSW hBB hW hx hres hWs
 have hk1 : (c.kind == 0) = false := by simp [hk]
 have hk2 : (c.kind == 1) = false := by simp [hk]
 have hk3 : (c.kind == 2) = false := by simp [hk]
 have hk4 : (c.kind == 3) = true := by simp [hk]
 have HK : Hid (c.kind = 3) := hk
 clear hk
 go_enter Tryz.func101, Tryz.ntmps101
 go_upto_region 1 with fail
 rw [HWe.out]
 go_wp2_with fail
 refine (choose_step n IH.out b S s (c, l1, l2) P _ _ _ _ HK.out HC.out H1.out H2.out HPN.out M1.out M2.out HS.out hw HSW.out HVE.out HR1.out HR2.out HP.out HSB.out).mono ?_
 rw [HRES.out]
 rintro e w6 ⟨rfl, hs6⟩
 go_wp2_with fail
 go_end0
 exact ⟨rfl, hs6.pre HBW.out⟩
set_option maxRecDepth 100000 in
set_option maxHeartbeats 2000000 in
theorem do_loop (n : Nat) (ih : DoCalls n) (b : Nat) (S : Nat → Prop) (s : SR) (q : Core × List (RT n) × List (RT n)) (P : Nat → Prop) (ve v1 v2 : Value) (w : World) (hc : CoreOk q.1) (h1 : TreeOk n q.2.1) (h2 : TreeOk n q.2.2) (hp : ∀ p ∈ q.1.parts, PtNum p) (m1 : NumsOk n q.2.1) (m2 : NumsOk n q.2.2) (hs : StOk s)
  (hw : s.2.length + workT (workS n) q ≤ 100000) (hS : StateAt w b S s) (hve : PartsV w P ve q.1.parts) (hr1 : RulesV n w P v1 q.2.1) (hr2 : RulesV n w P v2 q.2.2) (hP : ∀ k, P k → k < b) (hSb : ∀ k, S k → b < k) (hk : q.1.kind = 4) :
  Calls Tryz.prog 101 #[.pointer (some ⟨b, 0, none⟩), .agg #[.int .i64 q.1.kind, .int .i64 q.1.place, .int .i64 q.1.name, .int .i64 q.1.label, .int .i64 q.1.count, ve, v1, v2]] w fun e w' => e = .returned (.tuple #[]) ∧ StepAt b S w w' (doT (doF n) s q) := by
 have IH : Hid (DoCalls n) := ih
 clear ih
 obtain ⟨c, l1, l2⟩ := q
 simp only at *
 have hlw := hS.lt
 obtain ⟨ae, ne, ce, hvee⟩ : ∃ aa nn cc, ve = .slice aa nn cc := by
  rcases Joins.ownsRow_forms hve.1 with ⟨rfl, _⟩ | ⟨g, cap, rfl⟩ <;> exact ⟨_, _, _, rfl⟩
 subst hvee
 obtain ⟨a1, n1, c1, hv1⟩ := rulesV_form hr1
 obtain ⟨a2, n2, c2, hv2⟩ := rulesV_form hr2
 have hEV : v1 = .slice a1 n1 c1 ∧ v2 = .slice a2 n2 c2 := ⟨hv1, hv2⟩
 clear hv1 hv2
 obtain ⟨rfl, rfl⟩ := hEV
 generalize hW : w.alloc (.cells #[.int .i64 c.kind, .int .i64 c.place, .int .i64 c.name, .int .i64 c.label, .int .i64 c.count, .slice ae ne ce, .slice a1 n1 c1, .slice a2 n2 c2] 149) = W
 have HWe : Hid _ := hW
 have hBB : Below w.heap.size w W := by rw [← hW]; exact (Below.refl _ _).alloc (Nat.le_refl _) _
 have hSW : StateAt W b S s := hS.keep hBB (Nat.le_refl _)
 have hWs : W.heap.size = w.heap.size + 1 := by rw [← hW]; simp
 have q0 : W.cell? ⟨w.heap.size, 0, none⟩ = some (.int .i64 c.kind) := by rw [← hW]; simp [go_sem]
 have q1 : W.cell? ⟨w.heap.size, 1, none⟩ = some (.int .i64 c.place) := by rw [← hW]; simp [go_sem]
 have q2 : W.cell? ⟨w.heap.size, 2, none⟩ = some (.int .i64 c.name) := by rw [← hW]; simp [go_sem]
 have q3 : W.cell? ⟨w.heap.size, 3, none⟩ = some (.int .i64 c.label) := by rw [← hW]; simp [go_sem]
 have q4 : W.cell? ⟨w.heap.size, 4, none⟩ = some (.int .i64 c.count) := by rw [← hW]; simp [go_sem]
 have q5 : W.cell? ⟨w.heap.size, 5, none⟩ = some (.slice ae ne ce) := by rw [← hW]; simp [go_sem]
 have q6 : W.cell? ⟨w.heap.size, 6, none⟩ = some (.slice a1 n1 c1) := by rw [← hW]; simp [go_sem]
 have q7 : W.cell? ⟨w.heap.size, 7, none⟩ = some (.slice a2 n2 c2) := by rw [← hW]; simp [go_sem]
 have HVE : Hid (PartsV W P (.slice ae ne ce) c.parts) := partsV_below hve hBB
 have HR1 : Hid (RulesV n W P (.slice a1 n1 c1) l1) := rulesV_below hr1 hBB
 have HR2 : Hid (RulesV n W P (.slice a2 n2 c2) l2) := rulesV_below hr2 hBB
 have HSW : Hid (StateAt W b S s) := hSW
 have HSWL : Hid (StateAt W b (fun k => S k ∧ k < w.heap.size) s) := (hS.weak (fun k hk _ hl => ⟨hk, hl⟩)).keep hBB (Nat.le_refl _)
 have HBW : Hid (Below w.heap.size w W) := hBB
 have HS : Hid (StOk s) := hs
 have HC : Hid (CoreOk c) := hc
 have H1 : Hid (TreeOk n l1) := h1
 have H2 : Hid (TreeOk n l2) := h2
 have M1 : Hid (NumsOk n l1) := m1
 have M2 : Hid (NumsOk n l2) := m2
 have HP : Hid (∀ k, P k → k < b) := hP
 have HSB : Hid (∀ k, S k → b < k) := hSb
 have HPN : Hid (∀ p ∈ c.parts, PtNum p) := hp
 have hltW : w.heap.size < W.heap.size := by omega
 have hblW : b < W.heap.size := by omega
 have hne : ¬ w.heap.size = W.heap.size := by omega
 have hne2 : ¬ b = W.heap.size := by omega
 generalize hx : valueV s.1 c.parts = x
 have HX : Hid (valueV s.1 c.parts = x) := hx
 generalize hres : doT (doF n) s (c, l1, l2) = res at *
 have HRES : Hid (doT (doF n) s (c, l1, l2) = res) := hres
 have hVO : VlOk x := by rw [← hx]; exact valueV_ok hs.ok hp
 clear hve hr1 hr2 hS hs hc h1 h2 hp m1 m2 hP hSb hSW hBB hW hx hres hWs
 have hk1 : (c.kind == 0) = false := by simp [hk]
 have hk2 : (c.kind == 1) = false := by simp [hk]
 have hk3 : (c.kind == 2) = false := by simp [hk]
 have hk4 : (c.kind == 3) = false := by simp [hk]
 have hk5 : (c.kind == 4) = true := by simp [hk]
 have hwk : workT (workS n) (c, l1, l2) = 1 + c.count.toNat * (1 + workS n l1) := by unfold workT; rw [if_pos hk]
 rw [hwk] at hw
 have HE : Hid (repS (fun s => doF n s l1) c.count.toNat s = res) := by have := HRES.out; show _ = _; rw [← this]; unfold doT; simp [hk]
 clear hwk hk HRES
 obtain ⟨c0, c9⟩ := HC.out.count
 obtain ⟨cnt, hcnt⟩ : ∃ cnt : Nat, c.count = cnt := ⟨c.count.toNat, by omega⟩
 rw [hcnt, Int.toNat_natCast] at hw HE
 rw [hcnt] at q4
 have hc9 : cnt ≤ 9 := by omega
 have HCN : Hid (c.count = (cnt : Int)) := hcnt
 clear hcnt c0 c9
 have hstep0 : StepAt b (fun k => S k ∧ k < w.heap.size) W W s := StepAt.still HSWL.out (Below.refl _ _)
 have HM : Hid (s.2.length + cnt * (1 + workS n l1) ≤ 100000) := by show _ ≤ _; omega
 clear hw
 go_enter Tryz.func101, Tryz.ntmps101
 go_upto_region 1 with fail
 rw [HWe.out]
 go_wp2_with fail
 go_loopw [7] (fun y w' => ∃ (k : Nat) (sk : SR), y = .int .i64 k ∧ k ≤ cnt ∧ Hid (StOk sk) ∧ Hid (sk.2.length + (cnt - k) * (1 + workS n l1) ≤ 100000) ∧ Hid (StepAt b (fun k => S k ∧ k < w.heap.size) W w' sk) ∧ Hid (w'.heap[w.heap.size]? = W.heap[w.heap.size]?) ∧ Hid (RulesV n w' P (.slice a1 n1 c1) l1) ∧ Hid (repS (fun s => doF n s l1) (cnt - k) sk = res)) (fun y _ => cnt - (intOf y).toNat)
 case atStart => exact ⟨0, s, rfl, by omega, HS, HM, hstep0, rfl, HR1, HE⟩
 case round =>
  obtain ⟨k, sk, rfl, hk, HSK, HMK, HST, HBX, HRX, HEK⟩ := hrel
  have g4 : wr.cell? ⟨w.heap.size, 4, none⟩ = some (.int .i64 cnt) := (World.cell?_of_block (a := ⟨w.heap.size, 4, none⟩) HBX.out).trans q4
  have g6 : wr.cell? ⟨w.heap.size, 6, none⟩ = some (.slice a1 n1 c1) := (World.cell?_of_block (a := ⟨w.heap.size, 6, none⟩) HBX.out).trans q6
  clear q0 q1 q2 q3 q4 q5 q6 q7
  by_cases hlt : k < cnt
  ·have tk : decide ((k : Int) < (cnt : Int)) = true := by simp; omega
   have hlx : b < wr.heap.size := HST.out.state.lt
   have hsz : W.heap.size ≤ wr.heap.size := HST.out.onto.size
   have hSb2 : ∀ k, ((S k ∧ k < w.heap.size) ∨ W.heap.size ≤ k) → b < k := fun k hk => by
    rcases hk with hk | hk
    ·exact HSB.out k hk.1
    ·omega
   have HSB2 : Hid _ := hSb2
   clear hSb2
   have HMN : Hid (sk.2.length + workS n l1 + (cnt - (k + 1)) * (1 + workS n l1) ≤ 100000) := by
    have h1 := HMK.out
    have h2 : (cnt - k) * (1 + workS n l1) = (cnt - (k + 1)) * (1 + workS n l1) + (1 + workS n l1) := by
     rw [show cnt - k = (cnt - (k + 1)) + 1 by omega, Nat.succ_mul]
    show _ ≤ _
    omega
   have HSN : Hid _ := doF_ok n l1 sk M1.out H1.out HSK.out
   have HEN : Hid (repS (fun s => doF n s l1) (cnt - (k + 1)) (doF n sk l1) = res) := by
    have := HEK.out
    rw [show cnt - k = (cnt - (k + 1)) + 1 by omega] at this
    exact this
   go_wp2_with fail
   refine (IH.out b (fun k => (S k ∧ k < w.heap.size) ∨ W.heap.size ≤ k) sk l1 P _ _ H1.out M1.out HSK.out (by have := HMN.out; omega) HST.out.state HRX.out HP.out HSB2.out).mono ?_
   rintro e w6 ⟨rfl, hs6⟩
   have HST6 : Hid (StepAt b (fun k => S k ∧ k < w.heap.size) W w6 (doF n sk l1)) := HST.out.trans hs6
   have HBX6 : Hid (w6.heap[w.heap.size]? = W.heap[w.heap.size]?) := (hs6.onto.block w.heap.size (by omega) (by omega) (fun e => by rcases e with e | e; exact absurd e.2 (by omega); omega)).trans HBX.out
   have HRX6 : Hid (RulesV n w6 P (.slice a1 n1 c1) l1) := rulesV_lower HRX.out HP.out (hs6.onto.below hlx HSB2.out)
   clear hs6 g4 g6 HST HBX HRX HSB2
   go_wp2_with fail
   go_roundw
   case rel => exact ⟨k + 1, _, by go_num, by omega, HSN.out.1, by show _ ≤ _; have h1 := HSN.out.2; have h2 := HMN.out; omega, HST6, HBX6, HRX6, HEN⟩
   case measure => simp [intOf]; omega
  ·have tk : decide ((k : Int) < (cnt : Int)) = false := by simp; omega
   have HEN : Hid (sk = res) := by
    have := HEK.out
    rw [show cnt - k = 0 by omega] at this
    exact this
   go_wp2_with fail
   go_end0
   rw [← HEN.out]
   exact ⟨rfl, (HST.out.more (fun k hk => hk.1)).pre HBW.out⟩
end Go.Proofs.YtdgmoiflahoihaaGreatDoor
namespace Go.Proofs.YtdgmoiflahoihaaGreatDoor
open Go.RowKit
set_option linter.unusedSimpArgs false
set_option linter.unusedVariables false
theorem do_step (n : Nat) (ih : DoCalls n) (b : Nat) (S : Nat → Prop) (s : SR) (q : Core × List (RT n) × List (RT n)) (P : Nat → Prop) (ve v1 v2 : Value) (w : World) (hc : CoreOk q.1) (h1 : TreeOk n q.2.1) (h2 : TreeOk n q.2.2) (hp : ∀ p ∈ q.1.parts, PtNum p) (m1 : NumsOk n q.2.1) (m2 : NumsOk n q.2.2) (hs : StOk s)
  (hw : s.2.length + workT (workS n) q ≤ 100000) (hS : StateAt w b S s) (hve : PartsV w P ve q.1.parts) (hr1 : RulesV n w P v1 q.2.1) (hr2 : RulesV n w P v2 q.2.2) (hP : ∀ k, P k → k < b) (hSb : ∀ k, S k → b < k) :
  Calls Tryz.prog 101 #[.pointer (some ⟨b, 0, none⟩), .agg #[.int .i64 q.1.kind, .int .i64 q.1.place, .int .i64 q.1.name, .int .i64 q.1.label, .int .i64 q.1.count, ve, v1, v2]] w fun e w' => e = .returned (.tuple #[]) ∧ StepAt b S w w' (doT (doF n) s q) := by
 obtain ⟨k0, k4⟩ := hc.kind
 by_cases e0 : q.1.kind = 0
 ·exact do_give n b S s q P ve v1 v2 w hc h1 h2 hp m1 m2 hs hw hS hve hr1 hr2 hP hSb e0
 by_cases e1 : q.1.kind = 1
 ·exact do_open n b S s q P ve v1 v2 w hc h1 h2 hp m1 m2 hs hw hS hve hr1 hr2 hP hSb e1
 by_cases e2 : q.1.kind = 2
 ·exact do_tell n b S s q P ve v1 v2 w hc h1 h2 hp m1 m2 hs hw hS hve hr1 hr2 hP hSb e2
 by_cases e3 : q.1.kind = 3
 ·exact do_cond n ih b S s q P ve v1 v2 w hc h1 h2 hp m1 m2 hs hw hS hve hr1 hr2 hP hSb e3
 ·exact do_loop n ih b S s q P ve v1 v2 w hc h1 h2 hp m1 m2 hs hw hS hve hr1 hr2 hP hSb (by omega)
theorem rules_at2 {n : Nat} {w : World} {P : Nat → Prop} {v : Value} {l : List (Core × List (RT n) × List (RT n))} (h : RowsC (fun cs q => RuleC (RulesV n w P) w P cs q) w P v l) :
  ∃ ao g cap, v = .slice ao l.length cap ∧ ∀ i, ∀ hi : i < l.length, ao = some ⟨g, 0, none⟩ ∧ P g ∧ ∃ cs, RuleC (RulesV n w P) w P cs l[i] ∧ ∀ j, j < 8 → w.cell? ⟨g, i * 8 + j, none⟩ = cs[j]? := by
 obtain ⟨ao, g, cap, hv, h2⟩ := rules_at h
 refine ⟨ao, g, cap, hv, fun i hi => ?_⟩
 obtain ⟨h3, _, h4⟩ := h2 i hi
 obtain ⟨xs, _, h6, _⟩ := h
 exact ⟨h3, h6 g (by rw [hv, h3]; rfl), h4⟩
set_option maxRecDepth 100000 in
set_option maxHeartbeats 1000000 in
theorem doAll_zero : DoCalls 0 := by
 intro b S s l P v w ht hn hs hw hS hv hP hSb
 obtain ⟨ao, cap, rfl⟩ : ∃ ao cap, v = .slice ao 0 cap := by
  rcases Joins.ownsRow_forms hv.1 with ⟨rfl, _⟩ | ⟨g, cap, rfl⟩ <;> exact ⟨_, _, rfl⟩
 clear hv
 show Calls _ _ _ _ fun e w' => e = .returned (.tuple #[]) ∧ StepAt b S w w' s
 have HS : Hid (StateAt w b S s) := hS
 clear hS hs hw ht hn
 go_enter Tryz.func68, Tryz.ntmps68
 go_wp2_with fail
 go_loopw [8] (fun x w' => x = .int .i64 0 ∧ w' = w) (fun _ _ => 0)
 case atStart => exact ⟨rfl, rfl⟩
 case round =>
  obtain ⟨rfl, hb⟩ := hrel
  rw [hb]
  go_wp2_with fail
  go_end0
  exact ⟨rfl, StepAt.still HS.out (Below.refl _ _)⟩
theorem doL_cons {α : Type} (rec : SR → List α → SR) (s : SR) (q : Core × List α × List α) (r : List (Core × List α × List α)) : doL rec s (q :: r) = doL rec (doT rec s q) r := rfl
set_option maxRecDepth 100000 in
set_option maxHeartbeats 1000000 in
theorem doAll_step (n : Nat) (ih : DoCalls n) (b : Nat) (S : Nat → Prop) (s : SR) (l : List (Core × List (RT n) × List (RT n))) (P : Nat → Prop) (v : Value) (w : World) (hl : l.length ≤ 1000) (hok : ∀ q ∈ l, CoreOk q.1 ∧ TreeOk n q.2.1 ∧ TreeOk n q.2.2) (hnm : ∀ q ∈ l, (∀ p ∈ q.1.parts, PtNum p) ∧ NumsOk n q.2.1 ∧ NumsOk n q.2.2) (hs : StOk s)
  (hw : s.2.length + workL (workS n) l ≤ 100000) (hS : StateAt w b S s) (hv : RowsC (fun cs q => RuleC (RulesV n w P) w P cs q) w P v l) (hP : ∀ k, P k → k < b) (hSb : ∀ k, S k → b < k) :
  Calls Tryz.prog 68 #[.pointer (some ⟨b, 0, none⟩), v] w fun e w' => e = .returned (.tuple #[]) ∧ StepAt b S w w' (doL (doF n) s l) := by
 obtain ⟨ao, gb, cap, rfl, hcells⟩ := rules_at2 hv
 have hlt0 := hS.lt
 have HOK : Hid _ := hok
 have HNM : Hid _ := hnm
 have HC : Hid _ := hcells
 have IH : Hid (DoCalls n) := ih
 have HS0 : Hid (StOk s) := hs
 have HST0 : Hid (StepAt b S w w s) := StepAt.still hS (Below.refl _ _)
 have HW0 : Hid (s.2.length + workL (workS n) l ≤ 100000) := hw
 have HP : Hid (∀ k, P k → k < b) := hP
 have HSB : Hid (∀ k, S k → b < k) := hSb
 generalize hR : doL (doF n) s l = R at *
 have HR : Hid (doL (doF n) s l = R) := hR
 clear hcells hok hnm ih hR hv hs hw hS hP hSb
 go_enter Tryz.func68, Tryz.ntmps68
 go_wp2_with fail
 go_loopw [8] (fun x w' => ∃ (k : Nat) (sk : SR), x = .int .i64 k ∧ k ≤ l.length ∧ Hid (StOk sk) ∧ Hid (sk.2.length + workL (workS n) (l.drop k) ≤ 100000) ∧ Hid (StepAt b S w w' sk) ∧ Hid (doL (doF n) sk (l.drop k) = R)) (fun x _ => l.length - (intOf x).toNat)
 case atStart => exact ⟨0, s, rfl, by omega, HS0, HW0, HST0, HR⟩
 case round =>
  obtain ⟨k, sk, rfl, hk, HSK, HWK, HST, HL⟩ := hrel
  by_cases hlt : k < l.length
  ·have tk : decide ((k : Int) < (l.length : Int)) = true := by simp; omega
   obtain ⟨e0, hgb, cs, hru, hcs⟩ := HC.out k hlt
   obtain ⟨okc, ok1, ok2⟩ := HOK.out l[k] (List.getElem_mem hlt)
   obtain ⟨nmp, nm1, nm2⟩ := HNM.out l[k] (List.getElem_mem hlt)
   have hstep := HL.out
   have hwk := HWK.out
   rw [List.drop_eq_getElem_cons hlt, doL_cons] at hstep
   rw [List.drop_eq_getElem_cons hlt, workL_cons] at hwk
   have hBl : Below b w wr := HST.out.onto.below hlt0 HSB.out
   generalize hq : l[k] = q at *
   obtain ⟨ve, v1, v2, hcs0, hpe, hr1, hr2⟩ := hru
   subst hcs0
   obtain ⟨ae, ne, ce, hve⟩ : ∃ aa nn cc, ve = .slice aa nn cc := by
    rcases Joins.ownsRow_forms hpe.1 with ⟨rfl, _⟩ | ⟨g, cap, rfl⟩ <;> exact ⟨_, _, _, rfl⟩
   obtain ⟨a1, n1, c1, hv1⟩ := rulesV_form hr1
   obtain ⟨a2, n2, c2, hv2⟩ := rulesV_form hr2
   have hEV : ve = .slice ae ne ce ∧ v1 = .slice a1 n1 c1 ∧ v2 = .slice a2 n2 c2 := ⟨hve, hv1, hv2⟩
   clear hve hv1 hv2
   obtain ⟨rfl, rfl, rfl⟩ := hEV
   have hgbb : gb < b := HP.out gb hgb
   have d : ∀ j, j < 8 → wr.cell? ⟨gb, k * 8 + j, none⟩ = (coreV q.1 ++ [.slice ae ne ce, .slice a1 n1 c1, .slice a2 n2 c2])[j]? := fun j hj => (hBl.cell (p := ⟨gb, k * 8 + j, none⟩) hgbb).trans (hcs j hj)
   have d0 : wr.cell? ⟨gb, k * 8, none⟩ = some (.int .i64 q.1.kind) := d 0 (by omega)
   have d1 : wr.cell? ⟨gb, k * 8 + 1, none⟩ = some (.int .i64 q.1.place) := d 1 (by omega)
   have d2 : wr.cell? ⟨gb, k * 8 + 2, none⟩ = some (.int .i64 q.1.name) := d 2 (by omega)
   have d3 : wr.cell? ⟨gb, k * 8 + 3, none⟩ = some (.int .i64 q.1.label) := d 3 (by omega)
   have d4 : wr.cell? ⟨gb, k * 8 + 4, none⟩ = some (.int .i64 q.1.count) := d 4 (by omega)
   have d5 : wr.cell? ⟨gb, k * 8 + 5, none⟩ = some (.slice ae ne ce) := d 5 (by omega)
   have d6 : wr.cell? ⟨gb, k * 8 + 6, none⟩ = some (.slice a1 n1 c1) := d 6 (by omega)
   have d7 : wr.cell? ⟨gb, k * 8 + 7, none⟩ = some (.slice a2 n2 c2) := d 7 (by omega)
   subst e0
   have hz : w.heap.size ≤ wr.heap.size := HST.out.onto.size
   have hlr : b < wr.heap.size := HST.out.state.lt
   have OKC : Hid (CoreOk q.1) := okc
   have OK1 : Hid (TreeOk n q.2.1) := ok1
   have OK2 : Hid (TreeOk n q.2.2) := ok2
   have NMP : Hid (∀ p ∈ q.1.parts, PtNum p) := nmp
   have NM1 : Hid (NumsOk n q.2.1) := nm1
   have NM2 : Hid (NumsOk n q.2.2) := nm2
   have HPE : Hid (PartsV wr P (.slice ae ne ce) q.1.parts) := partsV_lower hpe HP.out hBl
   have HR1 : Hid (RulesV n wr P (.slice a1 n1 c1) q.2.1) := rulesV_lower hr1 HP.out hBl
   have HR2 : Hid (RulesV n wr P (.slice a2 n2 c2) q.2.2) := rulesV_lower hr2 HP.out hBl
   have HSB2 : Hid (∀ i, (S i ∨ w.heap.size ≤ i) → b < i) := fun i hi => by
    rcases hi with hi | hi
    ·exact HSB.out i hi
    ·omega
   have HDS : Hid _ := hstep
   have hro : RecRun (fun l => NumsOk n l ∧ TreeOk n l) (workS n) (doF n) := fun s l hl hs => doF_ok n l s hl.1 hl.2 hs
   have HTO : Hid (StOk (doT (doF n) sk q) ∧ (doT (doF n) sk q).2.length ≤ sk.2.length + workT (workS n) q) := doT_ok hro sk q nmp ⟨nm1, ok1⟩ ⟨nm2, ok2⟩ okc.kind HSK.out
   have HWN : Hid (sk.2.length + workT (workS n) q ≤ 100000) := by show _ ≤ _; omega
   have HWM : Hid (sk.2.length + (workT (workS n) q + workL (workS n) (l.drop (k + 1))) ≤ 100000) := hwk
   clear hstep hwk okc ok1 ok2 nmp nm1 nm2 hpe hr1 hr2 hcs d hq hBl hro
   go_wp2_with fail
   have hBA : Below wr.heap.size wr (wr.alloc (.cells #[.int .i64 q.1.kind, .int .i64 q.1.place, .int .i64 q.1.name, .int .i64 q.1.label, .int .i64 q.1.count, .slice ae ne ce, .slice a1 n1 c1, .slice a2 n2 c2] 149)) := (Below.refl _ _).alloc (Nat.le_refl _) _
   refine (do_step n IH.out b _ sk q P _ _ _ _ OKC.out OK1.out OK2.out NMP.out NM1.out NM2.out HSK.out HWN.out (HST.out.state.keep hBA (Nat.le_refl _)) (partsV_below HPE.out hBA) (rulesV_below HR1.out hBA) (rulesV_below HR2.out hBA) HP.out HSB2.out).mono ?_
   rintro e w1 ⟨rfl, hs1⟩
   have HST1 : Hid (StepAt b S w w1 (doT (doF n) sk q)) := HST.out.trans (hs1.pre hBA)
   clear hs1 hBA HST d0 d1 d2 d3 d4 d5 d6 d7
   go_wp2_with fail
   go_roundw
   case rel => exact ⟨k + 1, _, by go_num, by omega, HTO.out.1, by show _ ≤ _; have h1 := HTO.out.2; have h2 := HWM.out; omega, HST1, HDS⟩
   case measure => simp [intOf]; omega
  ·have tk : decide ((k : Int) < (l.length : Int)) = false := by simp; omega
   have hfin : sk = R := by
    have := HL.out
    rw [List.drop_of_length_le (by omega)] at this
    exact this
   have HF : Hid _ := hfin
   clear hfin
   go_wp2_with fail
   go_end0
   rw [← HF.out]
   exact ⟨rfl, HST.out⟩
theorem doAll_any : ∀ n, DoCalls n
 | 0 => doAll_zero
 | n + 1 => fun b S s l P v w ht hn hs hw hS hv hP hSb => doAll_step n (doAll_any n) b S s l P v w ht.1 ht.2 hn hs hw hS hv hP hSb
end Go.Proofs.YtdgmoiflahoihaaGreatDoor
