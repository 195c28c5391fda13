import Derived.Test.YtdgmoiflahoihaaEXD
import Derived.Deep.RegionLaw

namespace Go.Proofs.Ytdgmoiflahoihaa
open Go.RowKit
set_option linter.unusedSimpArgs false
set_option linter.unusedVariables false
set_option maxRecDepth 100000 in
set_option maxHeartbeats 2000000 in
theorem choose_any (b : Nat) (s : XS) (w : World) (hS : XAt w b s) (a c d : Nat) (ha : a < 100) :
  Calls Try.prog 115 #[.pointer (some ⟨b, 0, none⟩), icV ⟨13, a, c, d⟩] w (DoPost w b ⟨s.regs, s.notes, if (s.regs.getD a vl0).fault ≠ 0 then d else if (s.regs.getD a vl0).num = 0 then c else s.pc⟩) := by
 have hlt := hS.lt
 have hB : Below w.heap.size w (w.alloc (.cells (icCells ⟨13, a, c, d⟩) 70)) := (Below.refl _ _).alloc (Nat.le_refl _) _
 have hst := hS.keep hB (Nat.le_refl _)
 obtain ⟨r0, r1⟩ := hst.cell a ha
 have k1 : (w.alloc (.cells (icCells ⟨13, a, c, d⟩) 70)).cell? ⟨w.heap.size, 1, none⟩ = some (.int .i64 a) := by simp [go_sem]
 have k2 : (w.alloc (.cells (icCells ⟨13, a, c, d⟩) 70)).cell? ⟨w.heap.size, 2, none⟩ = some (.int .i64 c) := by simp [go_sem]
 have k3 : (w.alloc (.cells (icCells ⟨13, a, c, d⟩) 70)).cell? ⟨w.heap.size, 3, none⟩ = some (.int .i64 d) := by simp [go_sem]
 have hWs : (w.alloc (.cells (icCells ⟨13, a, c, d⟩) 70)).heap.size = w.heap.size + 1 := by simp
 have ia0 : (0 : Int) ≤ (a : Int) := by omega
 have ia1 : (a : Int) < 100 := by omega
 generalize s.regs.getD a vl0 = x at *
 obtain ⟨xn, xf⟩ := x
 simp only at r0 r1 ⊢
 clear hS
 go_enter Try.func115, Try.ntmps115
 go_upto_region 1 with fail
 generalize (w.alloc (.cells (icCells ⟨13, a, c, d⟩) 70)) = W at *
 have HST : Hid (XAt W b s) := hst
 have HB : Hid (Below w.heap.size w W) := hB
 have HK : Hid (∀ V : World, V.heap[w.heap.size]? = W.heap[w.heap.size]? → V.heap[b]? = W.heap[b]? → V.cell? ⟨w.heap.size, 1, none⟩ = some (.int .i64 a) ∧ V.cell? ⟨b, a * 2, none⟩ = some (.int .i64 xn) ∧ V.cell? ⟨b, a * 2 + 1, none⟩ = some (.int .i64 xf)) := fun V e e' => ⟨(World.cell?_of_block (a := ⟨w.heap.size, 1, none⟩) e).trans k1, (World.cell?_of_block (a := ⟨b, a * 2, none⟩) e').trans r0, (World.cell?_of_block (a := ⟨b, a * 2 + 1, none⟩) e').trans r1⟩
 have hbW : w.heap.size < W.heap.size := by omega
 have hbb : b < W.heap.size := by omega
 have hn1 : w.heap.size ≠ W.heap.size := by omega
 have hn2 : b ≠ W.heap.size := by omega
 clear hst hB hWs
 go_cut [4] from 4 to 12 (fun y wx => y = .pointer (some ⟨W.heap.size, 0, none⟩) ∧ Below W.heap.size W wx ∧ wx.cell? ⟨W.heap.size, 0, none⟩ = some (.int .i64 xn) ∧ wx.cell? ⟨W.heap.size, 1, none⟩ = some (.int .i64 xf))
 case first =>
  go_region_held3 (fun w' => w'.cell? ⟨w.heap.size, 1, none⟩ = some (.int .i64 a) ∧ w'.cell? ⟨b, a * 2, none⟩ = some (.int .i64 xn) ∧ w'.cell? ⟨b, a * 2 + 1, none⟩ = some (.int .i64 xf)) (first | exact HK.out _ rfl rfl | exact HK.out _ (Below.heap_alloc _ _ _ hbW) (Below.heap_alloc _ _ _ hbb) | exact HK.out _ ((Below.heap_setCell _ _ _ _ hn1).trans ((Below.heap_setCell _ _ _ _ hn1).trans (Below.heap_alloc _ _ _ hbW))) ((Below.heap_setCell _ _ _ _ hn2).trans ((Below.heap_setCell _ _ _ _ hn2).trans (Below.heap_alloc _ _ _ hbb)))) (fail)
  all_goals (go_wp2_with fail; go_meet)
  all_goals exact ⟨rfl, ((Below.refl _ _).alloc (Nat.le_refl _) _).drew, by simp [go_sem], by simp [go_sem]⟩
 case rest =>
  obtain ⟨rfl, hbx, y0, y1⟩ := hcut
  have hSX : XAt wc b s := HST.out.keep hbx (Nat.le_refl _)
  have hBX : Below w.heap.size w wc := HB.out.trans (hbx.mono (by omega))
  have hp := hSX.pc
  have fz := hSX.fz
  rw [← hbx.cell (p := ⟨w.heap.size, 2, none⟩) hbW] at k2
  rw [← hbx.cell (p := ⟨w.heap.size, 3, none⟩) hbW] at k3
  have HSX : Hid (XAt wc b s) := hSX
  have HBX : Hid (Below w.heap.size w wc) := hBX
  clear hbx HST HB HK hSX hBX r0 r1 k1
  by_cases f0 : xf = 0
  ·subst f0
   by_cases n0 : xn = 0
   ·subst n0
    go_wp2_with fail
    go_end0
    unfold DoPost
    simp only [ne_eq, not_true_eq_false, if_false, if_true]
    exact ⟨trivial, HSX.out.goto c, (HBX.out.mono (by omega)).setCell (by simp) _⟩
   ·have t : (xn == 0) = false := by simpa using n0
    go_wp2_with fail
    go_end0
    unfold DoPost
    simp only [ne_eq, not_true_eq_false, if_false, n0]
    exact ⟨trivial, HSX.out, HBX.out.mono (by omega)⟩
  ·have t : (xf != 0) = true := by simpa using f0
   go_wp2_with fail
   go_end0
   unfold DoPost
   simp only [ne_eq, f0, not_false_eq_true, if_true]
   exact ⟨trivial, HSX.out.goto d, (HBX.out.mono (by omega)).setCell (by simp) _⟩
theorem x_grown {w W w2 : World} {b : Nat} {s : XS} {v : Value} (h : XAt w b s) (ho : w.ownsRow (b + 1) 88 5 v s.notes.length (ntCells s.notes)) (h0 : Below w.heap.size w W) (hg : W.grownBy w2 v.ownBlock) :
  w2.heap[b]? = w.heap[b]? ∧ Below b w w2 := by
 have hlt := h.lt
 have hne : ∀ k, k ≤ b → some k ≠ v.ownBlock := by
  intro k hk e
  have := (ho.lt k e.symm).1
  omega
 have hsz := h0.size
 refine ⟨(hg.block b (by omega) (hne b (Nat.le_refl _))).trans (h0.block b (by omega)), ?_⟩
 exact ⟨hg.os.trans h0.os, hg.tape.trans h0.tape, hg.output.trans h0.output, Nat.le_trans hsz hg.size, fun k hk => (hg.block k (by omega) (hne k (by omega))).trans (h0.block k (by omega))⟩
theorem x_more {w w2 : World} {b : Nat} {s : XS} {x : Nt} {v' : Value} (h : XAt w b s) (hb : w2.heap[b]? = w.heap[b]?) (ho : w2.ownsRow (b + 1) 88 5 v' (s.notes.length + 1) (ntCells s.notes ++ ntCell x)) : XAt (w2.setCell ⟨b, 200, none⟩ v') b ⟨s.regs, s.notes ++ [x], s.pc⟩ := by
 have c : ∀ o, w2.cell? ⟨b, o, none⟩ = w.cell? ⟨b, o, none⟩ := fun o => World.cell?_of_block (a := ⟨b, o, none⟩) hb
 have f : ∀ o, w2.frozen? ⟨b, o, none⟩ = w.frozen? ⟨b, o, none⟩ := fun o => World.frozen?_of_block (a := ⟨b, o, none⟩) hb
 obtain ⟨hc, ⟨v0, hv0, _⟩, hp, fz⟩ := h
 refine ⟨fun k hk => ?_, ⟨v', by simp [go_sem, c, hv0], ?_⟩, by simp [go_sem, c, hp], fun o => by simp [go_sem, f, fz]⟩
 ·obtain ⟨e0, e1⟩ := hc k hk
  have n1 : ¬ 200 = k * 2 := by omega
  have n2 : ¬ 200 = k * 2 + 1 := by omega
  constructor
  ·simp [go_sem, c, e0, n1]
  ·simp [go_sem, c, e1, n2]
 ·have := ownsRow_setCell_below ho (a := ⟨b, 200, none⟩) (by simp) v'
  rw [ntCells_app]
  simpa [ntCells] using this
set_option maxRecDepth 100000 in
set_option maxHeartbeats 2000000 in
theorem leaveX_any (b : Nat) (s : XS) (kind : Int) (w : World) (hS : XAt w b s) (hnl : s.notes.length ≤ 100000) (op : Int) (a c d : Nat) (hd : d < 100) :
  Calls Try.prog 116 #[.pointer (some ⟨b, 0, none⟩), .int .i64 kind, icV ⟨op, a, c, d⟩] w (DoPost w b ⟨s.regs, s.notes ++ [⟨kind, a, c, s.regs.getD d vl0⟩], s.pc⟩) := by
 have hlt := hS.lt
 have hB : Below w.heap.size w (w.alloc (.cells (icCells ⟨op, a, c, d⟩) 70)) := (Below.refl _ _).alloc (Nat.le_refl _) _
 have hst := hS.keep hB (Nat.le_refl _)
 obtain ⟨r0, r1⟩ := hst.cell d hd
 have k1 : (w.alloc (.cells (icCells ⟨op, a, c, d⟩) 70)).cell? ⟨w.heap.size, 1, none⟩ = some (.int .i64 a) := by simp [go_sem]
 have k2 : (w.alloc (.cells (icCells ⟨op, a, c, d⟩) 70)).cell? ⟨w.heap.size, 2, none⟩ = some (.int .i64 c) := by simp [go_sem]
 have k3 : (w.alloc (.cells (icCells ⟨op, a, c, d⟩) 70)).cell? ⟨w.heap.size, 3, none⟩ = some (.int .i64 d) := by simp [go_sem]
 have hWs : (w.alloc (.cells (icCells ⟨op, a, c, d⟩) 70)).heap.size = w.heap.size + 1 := by simp
 have ia0 : (0 : Int) ≤ (d : Int) := by omega
 have ia1 : (d : Int) < 100 := by omega
 obtain ⟨iV, hiV, hzV, hsV, hbV⟩ := parts_of_info infoNote
 generalize s.regs.getD d vl0 = x at *
 clear hS
 go_enter Try.func116, Try.ntmps116
 go_upto_region 1 with fail
 generalize (w.alloc (.cells (icCells ⟨op, a, c, d⟩) 70)) = W at *
 have HST : Hid (XAt W b s) := hst
 have HB : Hid (Below w.heap.size w W) := hB
 have HK : Hid (∀ V : World, V.heap[w.heap.size]? = W.heap[w.heap.size]? → V.heap[b]? = W.heap[b]? → V.cell? ⟨w.heap.size, 1, none⟩ = some (.int .i64 a) ∧ V.cell? ⟨w.heap.size, 2, none⟩ = some (.int .i64 c) ∧ V.cell? ⟨w.heap.size, 3, none⟩ = some (.int .i64 d) ∧ V.cell? ⟨b, d * 2, none⟩ = some (.int .i64 x.num) ∧ V.cell? ⟨b, d * 2 + 1, none⟩ = some (.int .i64 x.fault)) := fun V e e' => ⟨(World.cell?_of_block (a := ⟨w.heap.size, 1, none⟩) e).trans k1, (World.cell?_of_block (a := ⟨w.heap.size, 2, none⟩) e).trans k2, (World.cell?_of_block (a := ⟨w.heap.size, 3, none⟩) e).trans k3, (World.cell?_of_block (a := ⟨b, d * 2, none⟩) e').trans r0, (World.cell?_of_block (a := ⟨b, d * 2 + 1, none⟩) e').trans r1⟩
 have hbW : w.heap.size < W.heap.size := by omega
 have hbb : b < W.heap.size := by omega
 have hn1 : w.heap.size ≠ W.heap.size := by omega
 have hn2 : b ≠ W.heap.size := by omega
 clear hst hB hWs r0 r1 k1 k2 k3
 go_cut [6] from 6 to 19 (fun y wx => y = .pointer (some ⟨W.heap.size, 0, none⟩) ∧ Below W.heap.size W wx ∧ wx.heap.size = W.heap.size + 1 ∧ wx.cell? ⟨W.heap.size, 0, none⟩ = some (.int .i64 kind) ∧ wx.cell? ⟨W.heap.size, 1, none⟩ = some (.int .i64 a) ∧ wx.cell? ⟨W.heap.size, 2, none⟩ = some (.int .i64 c) ∧ wx.cell? ⟨W.heap.size, 3, none⟩ = some (.int .i64 x.num) ∧ wx.cell? ⟨W.heap.size, 4, none⟩ = some (.int .i64 x.fault))
 case first =>
  go_region_held3 (fun w' => w'.cell? ⟨w.heap.size, 1, none⟩ = some (.int .i64 a) ∧ w'.cell? ⟨w.heap.size, 2, none⟩ = some (.int .i64 c) ∧ w'.cell? ⟨w.heap.size, 3, none⟩ = some (.int .i64 d) ∧ w'.cell? ⟨b, d * 2, none⟩ = some (.int .i64 x.num) ∧ w'.cell? ⟨b, d * 2 + 1, none⟩ = some (.int .i64 x.fault)) (first | exact HK.out _ rfl rfl | exact HK.out _ (Below.heap_alloc _ _ _ hbW) (Below.heap_alloc _ _ _ hbb)) (fail)
  all_goals (go_wp2_with fail; go_meet)
  all_goals exact ⟨rfl, ((Below.refl _ _).alloc (Nat.le_refl _) _).drew, by simp, by simp [go_sem], by simp [go_sem], by simp [go_sem], by simp [go_sem], by simp [go_sem]⟩
 case rest =>
  obtain ⟨rfl, hbx, hxs, m0, m1, m2, m3, m4⟩ := hcut
  have hSX : XAt wc b s := HST.out.keep hbx (Nat.le_refl _)
  have HBX : Hid (Below w.heap.size w wc) := HB.out.trans (hbx.mono (by omega))
  obtain ⟨v, hv, ho⟩ := hSX.row
  have fz := hSX.fz
  have HSX : Hid (XAt wc b s) := hSX
  have HO : Hid (wc.ownsRow (b + 1) 88 5 v s.notes.length (ntCells s.notes)) := ho
  have hn1 : ¬ b = wc.heap.size := by omega
  have hn3 : b < wc.heap.size := by omega
  have hn4 : W.heap.size < wc.heap.size := by omega
  have hn5 : ¬ W.heap.size = wc.heap.size := by omega
  clear hbx HST HB HK hSX ho
  go_upto_region 2 with fail
  go_region_law (refine rv_append2 rfl (.tmp 24) (.tmp 26) 35 rfl (b + 1) 88 iV (.agg #[.int .i64 0, .int .i64 0, .int .i64 0, .int .i64 0, .int .i64 0]) 5 40 Try.underlying35 hiV hzV hsV hbV rfl (by decide) v s.notes.length (ntCells s.notes) (by simp [Act.eval, Act.put]) (by exact (HO.out.alloc _).drew) ⟨wc.heap.size, 0, none⟩ 1 1 (ntCell ⟨kind, a, c, x⟩) (by simp [Act.eval, Act.put]) rfl (by exact nt_new wc ⟨kind, a, c, x⟩ 88) (by intro q hq; simp [ntCell] at hq; rcases hq with rfl | rfl | rfl | rfl | rfl <;> rfl) (by unfold maxLen; omega) (by omega) (by simp; omega) (by decide) ?_; intro v' w2 hown hgrow hfr; have hk := x_grown HSX.out HO.out (W := (wc.alloc (.cells #[.int .i64 kind, .int .i64 a, .int .i64 c, .int .i64 x.num, .int .i64 x.fault] 88)).drew) (((Below.refl _ _).alloc (Nat.le_refl _) _).drew) hgrow; have q0 : w2.cell? ⟨b, 200, none⟩ = some v := (World.cell?_of_block (a := ⟨b, 200, none⟩) hk.1).trans hv; have q1 : ∀ o, w2.frozen? ⟨b, o, none⟩ = false := (fun o => (World.frozen?_of_block (a := ⟨b, o, none⟩) hk.1).trans (fz o)); obtain ⟨g, cap, rfl⟩ := Joins.ownsRow_form hown (by omega))
  all_goals go_wp2_with fail
  all_goals go_end0
  all_goals exact ⟨rfl, x_more HSX.out hk.1 hown, ((HBX.out.mono (by omega)).trans hk.2).setCell (by simp) _⟩
end Go.Proofs.Ytdgmoiflahoihaa
