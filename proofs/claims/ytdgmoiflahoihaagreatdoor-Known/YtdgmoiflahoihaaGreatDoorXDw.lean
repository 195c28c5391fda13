import Derived.Test.YtdgmoiflahoihaaGreatDoorXPw
import Derived.Deep.RegionWith
import Derived.Deep.RegionHeld3
import Derived.Deep.RegionLaw

namespace Go.Proofs.YtdgmoiflahoihaaGreatDoor
open Go.RowKit
set_option linter.unusedSimpArgs false
set_option linter.unusedVariables false
structure XAt (w : World) (b : Nat) (s : XS) : Prop where
 cell : ∀ k, k < 100 → w.cell? ⟨b, k * 2, none⟩ = some (.int .i64 (s.regs.getD k vl0).num) ∧ w.cell? ⟨b, k * 2 + 1, none⟩ = some (.int .i64 (s.regs.getD k vl0).fault)
 row : ∃ v, w.cell? ⟨b, 200, none⟩ = some v ∧ w.ownsRow (b + 1) 61 5 v s.notes.length (ntCells s.notes)
 pc : w.cell? ⟨b, 201, none⟩ = some (.int .i64 s.pc)
 fz : ∀ o, w.frozen? ⟨b, o, none⟩ = false
theorem XAt.lt {w : World} {b : Nat} {s : XS} (h : XAt w b s) : b < w.heap.size := World.block_lt_of_cell? w _ h.pc
theorem XAt.keep {w w' : World} {b B : Nat} {s : XS} (h : XAt w b s) (hb : Below B w w') (hB : w.heap.size ≤ B) : XAt w' b s := by
 have hlt := h.lt
 obtain ⟨hc, ⟨v, c, ho⟩, hp, fz⟩ := h
 exact ⟨fun k hk => ⟨(hb.cell (p := ⟨b, k * 2, none⟩) (by simp only; omega)).trans (hc k hk).1, (hb.cell (p := ⟨b, k * 2 + 1, none⟩) (by simp only; omega)).trans (hc k hk).2⟩, ⟨v, (hb.cell (p := ⟨b, 200, none⟩) (by simp only; omega)).trans c, own_low ho hb hB⟩, (hb.cell (p := ⟨b, 201, none⟩) (by simp only; omega)).trans hp, fun o => (hb.frozen (p := ⟨b, o, none⟩) (by simp only; omega)).trans (fz o)⟩
theorem XAt.goto {w : World} {b : Nat} {s : XS} (h : XAt w b s) (n : Nat) : XAt (w.setCell ⟨b, 201, none⟩ (.int .i64 n)) b ⟨s.regs, s.notes, n⟩ := by
 obtain ⟨hc, ⟨v, c, ho⟩, hp, fz⟩ := h
 refine ⟨fun k hk => ?_, ⟨v, by simp [go_sem, c], ownsRow_setCell_below ho (a := ⟨b, 201, none⟩) (by simp) _⟩, by simp [go_sem, hp], fun o => by simp [go_sem, fz]⟩
 obtain ⟨e0, e1⟩ := hc k hk
 have n1 : ¬ 201 = k * 2 := by omega
 have n2 : ¬ 201 = k * 2 + 1 := by omega
 constructor
 ·simp [go_sem, e0, n1]
 ·simp [go_sem, e1, n2]
theorem XAt.set {w : World} {b : Nat} {s : XS} (h : XAt w b s) (hl : s.regs.length = 100) (i : Nat) (hi : i < 100) (x : Vl) : XAt ((w.setCell ⟨b, i * 2, none⟩ (.int .i64 x.num)).setCell ⟨b, i * 2 + 1, none⟩ (.int .i64 x.fault)) b ⟨s.regs.set i x, s.notes, s.pc⟩ := by
 obtain ⟨hc, ⟨v, c, ho⟩, hp, fz⟩ := h
 refine ⟨fun k hk => ?_, ⟨v, ?_, ?_⟩, ?_, fun o => by simp [go_sem, fz]⟩
 ·obtain ⟨e0, e1⟩ := hc k hk
  obtain ⟨f0, f1⟩ := hc i hi
  by_cases hik : i = k
  ·subst hik
   have e : (s.regs.set i x).getD i vl0 = x := by rw [List.getD_eq_getElem?_getD, List.getElem?_set_self (by omega)]; rfl
   simp only [e]
   constructor <;> simp [go_sem, f0, f1]
  ·have e : (s.regs.set i x).getD k vl0 = s.regs.getD k vl0 := by rw [List.getD_eq_getElem?_getD, List.getElem?_set_ne hik, List.getD_eq_getElem?_getD]
   simp only [e]
   have n1 : ¬ i * 2 = k * 2 := by omega
   have n2 : ¬ i * 2 + 1 = k * 2 := by omega
   have n3 : ¬ i * 2 = k * 2 + 1 := by omega
   have n4 : ¬ i * 2 + 1 = k * 2 + 1 := by omega
   constructor
   ·simp [go_sem, e0, n1, n2]
   ·simp [go_sem, e1, n3, n4, hik]
 ·have n1 : ¬ i * 2 = 200 := by omega
  have n2 : ¬ i * 2 + 1 = 200 := by omega
  simp [go_sem, c, n1, n2]
 ·exact ownsRow_setCell_below (ownsRow_setCell_below ho (a := ⟨b, i * 2, none⟩) (by simp) _) (a := ⟨b, i * 2 + 1, none⟩) (by simp) _
 ·have n1 : ¬ i * 2 = 201 := by omega
  have n2 : ¬ i * 2 + 1 = 201 := by omega
  simp [go_sem, hp, n1, n2]
def DoPost (w : World) (b : Nat) (s : XS) (e : Ending) (w' : World) : Prop := e = .returned (.tuple #[]) ∧ XAt w' b s ∧ Below b w w'
structure BoxAt2 (w W : World) (b : Nat) (s : XS) (x : Ic) : Prop where
 k0 : W.cell? ⟨w.heap.size, 0, none⟩ = some (.int .i64 x.op)
 k1 : W.cell? ⟨w.heap.size, 1, none⟩ = some (.int .i64 x.a)
 k2 : W.cell? ⟨w.heap.size, 2, none⟩ = some (.int .i64 x.b)
 k3 : W.cell? ⟨w.heap.size, 3, none⟩ = some (.int .i64 x.c)
 st : XAt W b ⟨s.regs, s.notes, s.pc + 1⟩
 low : Below b w W
 size : W.heap.size = w.heap.size + 1
theorem boxAt2 {w : World} {b : Nat} {s : XS} (h : XAt w b s) (x : Ic) : BoxAt2 w ((w.setCell ⟨b, 201, none⟩ (.int .i64 ((s.pc : Int) + 1))).alloc (.cells (icCells x) 87)) b s x := by
 have hlt := h.lt
 have hs : (w.setCell ⟨b, 201, none⟩ (.int .i64 ((s.pc : Int) + 1))).heap.size = w.heap.size := by simp
 refine ⟨?_, ?_, ?_, ?_, ?_, ?_, ?_⟩
 ·simp [go_sem]
 ·simp [go_sem]
 ·simp [go_sem]
 ·simp [go_sem]
 ·have k := h.goto (s.pc + 1)
  exact k.keep ((Below.refl _ _).alloc (Nat.le_refl _) _) (Nat.le_refl _)
 ·exact ((Below.refl b w).setCell (by simp) _).alloc (by rw [hs]; omega) _
 ·simp
set_option maxRecDepth 100000 in
set_option maxHeartbeats 1000000 in
theorem d_jump (b : Nat) (s : XS) (w : World) (hS : XAt w b s) (hO : XOk s) (hpc : s.pc ≤ 2000) (fs : List Int) (vf : Value) (a : Nat) (c d : Int) :
  Calls Tryz.prog 99 #[.pointer (some ⟨b, 0, none⟩), icV ⟨12, a, c, d⟩, vf] w (DoPost w b (stepX ⟨12, a, c, d⟩ fs s)) := by
 have HE : Hid (stepX ⟨12, a, c, d⟩ fs s = ⟨s.regs, s.notes, a⟩) := by show _ = _; unfold stepX; simp
 rw [HE.out]
 have HB : Hid _ := boxAt2 hS ⟨12, a, c, d⟩
 have hp := hS.pc
 have fz := hS.fz
 have hlt := hS.lt
 clear hO HE hS
 go_enter Tryz.func99, Tryz.ntmps99
 go_upto_region 2 with fail
 generalize ((w.setCell ⟨b, 201, none⟩ (.int .i64 ((s.pc : Int) + 1))).alloc (.cells (icCells ⟨12, a, c, d⟩) 87)) = W at *
 obtain ⟨k0, k1, k2, k3, hst, hlow, hsz⟩ := HB.out
 simp only at k0 k1 k2 k3
 have hp2 := hst.pc
 have fz2 := hst.fz
 have HST : Hid (XAt W b ⟨s.regs, s.notes, s.pc + 1⟩) := hst
 have HLOW : Hid (Below b w W) := hlow
 clear hst hlow HB hp fz
 go_wp2_with fail
 go_end0
 exact ⟨rfl, HST.out.goto a, HLOW.out.setCell (by simp) _⟩
end Go.Proofs.YtdgmoiflahoihaaGreatDoor
namespace Go.Proofs.YtdgmoiflahoihaaGreatDoor
open Go.RowKit
set_option linter.unusedSimpArgs false
set_option linter.unusedVariables false
set_option maxRecDepth 100000 in
set_option maxHeartbeats 2000000 in
theorem choose_any (b : Nat) (s : XS) (w : World) (hS : XAt w b s) (a c d : Nat) (ha : a < 100) :
  Calls Tryz.prog 132 #[.pointer (some ⟨b, 0, none⟩), icV ⟨13, a, c, d⟩] w (DoPost w b ⟨s.regs, s.notes, if (s.regs.getD a vl0).fault ≠ 0 then d else if (s.regs.getD a vl0).num = 0 then c else s.pc⟩) := by
 have hlt := hS.lt
 have hB : Below w.heap.size w (w.alloc (.cells (icCells ⟨13, a, c, d⟩) 87)) := (Below.refl _ _).alloc (Nat.le_refl _) _
 have hst := hS.keep hB (Nat.le_refl _)
 obtain ⟨r0, r1⟩ := hst.cell a ha
 have k1 : (w.alloc (.cells (icCells ⟨13, a, c, d⟩) 87)).cell? ⟨w.heap.size, 1, none⟩ = some (.int .i64 a) := by simp [go_sem]
 have k2 : (w.alloc (.cells (icCells ⟨13, a, c, d⟩) 87)).cell? ⟨w.heap.size, 2, none⟩ = some (.int .i64 c) := by simp [go_sem]
 have k3 : (w.alloc (.cells (icCells ⟨13, a, c, d⟩) 87)).cell? ⟨w.heap.size, 3, none⟩ = some (.int .i64 d) := by simp [go_sem]
 have hWs : (w.alloc (.cells (icCells ⟨13, a, c, d⟩) 87)).heap.size = w.heap.size + 1 := by simp
 have ia0 : (0 : Int) ≤ (a : Int) := by omega
 have ia1 : (a : Int) < 100 := by omega
 generalize s.regs.getD a vl0 = x at *
 obtain ⟨xn, xf⟩ := x
 simp only at r0 r1 ⊢
 clear hS
 go_enter Tryz.func132, Tryz.ntmps132
 go_upto_region 1 with fail
 generalize (w.alloc (.cells (icCells ⟨13, a, c, d⟩) 87)) = W at *
 have HST : Hid (XAt W b s) := hst
 have HB : Hid (Below w.heap.size w W) := hB
 have HK : Hid (∀ V : World, V.heap[w.heap.size]? = W.heap[w.heap.size]? → V.heap[b]? = W.heap[b]? → V.cell? ⟨w.heap.size, 1, none⟩ = some (.int .i64 a) ∧ V.cell? ⟨b, a * 2, none⟩ = some (.int .i64 xn) ∧ V.cell? ⟨b, a * 2 + 1, none⟩ = some (.int .i64 xf)) := fun V e e' => ⟨(World.cell?_of_block (a := ⟨w.heap.size, 1, none⟩) e).trans k1, (World.cell?_of_block (a := ⟨b, a * 2, none⟩) e').trans r0, (World.cell?_of_block (a := ⟨b, a * 2 + 1, none⟩) e').trans r1⟩
 have hbW : w.heap.size < W.heap.size := by omega
 have hbb : b < W.heap.size := by omega
 have hn1 : w.heap.size ≠ W.heap.size := by omega
 have hn2 : b ≠ W.heap.size := by omega
 clear hst hB hWs
 go_cut [4] from 4 to 12 (fun y wx => y = .pointer (some ⟨W.heap.size, 0, none⟩) ∧ Below W.heap.size W wx ∧ wx.cell? ⟨W.heap.size, 0, none⟩ = some (.int .i64 xn) ∧ wx.cell? ⟨W.heap.size, 1, none⟩ = some (.int .i64 xf))
 case first =>
  go_region_held3 (fun w' => w'.cell? ⟨w.heap.size, 1, none⟩ = some (.int .i64 a) ∧ w'.cell? ⟨b, a * 2, none⟩ = some (.int .i64 xn) ∧ w'.cell? ⟨b, a * 2 + 1, none⟩ = some (.int .i64 xf)) (first | exact HK.out _ rfl rfl | exact HK.out _ (Below.heap_alloc _ _ _ hbW) (Below.heap_alloc _ _ _ hbb) | exact HK.out _ ((Below.heap_setCell _ _ _ _ hn1).trans ((Below.heap_setCell _ _ _ _ hn1).trans (Below.heap_alloc _ _ _ hbW))) ((Below.heap_setCell _ _ _ _ hn2).trans ((Below.heap_setCell _ _ _ _ hn2).trans (Below.heap_alloc _ _ _ hbb)))) (fail)
  all_goals (go_wp2_with fail; go_meet)
  all_goals exact ⟨rfl, ((Below.refl _ _).alloc (Nat.le_refl _) _).drew, by simp [go_sem], by simp [go_sem]⟩
 case rest =>
  obtain ⟨rfl, hbx, y0, y1⟩ := hcut
  have hSX : XAt wc b s := HST.out.keep hbx (Nat.le_refl _)
  have hBX : Below w.heap.size w wc := HB.out.trans (hbx.mono (by omega))
  have hp := hSX.pc
  have fz := hSX.fz
  rw [← hbx.cell (p := ⟨w.heap.size, 2, none⟩) hbW] at k2
  rw [← hbx.cell (p := ⟨w.heap.size, 3, none⟩) hbW] at k3
  have HSX : Hid (XAt wc b s) := hSX
  have HBX : Hid (Below w.heap.size w wc) := hBX
  clear hbx HST HB HK hSX hBX r0 r1 k1
  by_cases f0 : xf = 0
  ·subst f0
   by_cases n0 : xn = 0
   ·subst n0
    go_wp2_with fail
    go_end0
    unfold DoPost
    simp only [ne_eq, not_true_eq_false, if_false, if_true]
    exact ⟨trivial, HSX.out.goto c, (HBX.out.mono (by omega)).setCell (by simp) _⟩
   ·have t : (xn == 0) = false := by simpa using n0
    go_wp2_with fail
    go_end0
    unfold DoPost
    simp only [ne_eq, not_true_eq_false, if_false, n0]
    exact ⟨trivial, HSX.out, HBX.out.mono (by omega)⟩
  ·have t : (xf != 0) = true := by simpa using f0
   go_wp2_with fail
   go_end0
   unfold DoPost
   simp only [ne_eq, f0, not_false_eq_true, if_true]
   exact ⟨trivial, HSX.out.goto d, (HBX.out.mono (by omega)).setCell (by simp) _⟩
theorem x_grown {w W w2 : World} {b : Nat} {s : XS} {v : Value} (h : XAt w b s) (ho : w.ownsRow (b + 1) 61 5 v s.notes.length (ntCells s.notes)) (h0 : Below w.heap.size w W) (hg : W.grownBy w2 v.ownBlock) :
  w2.heap[b]? = w.heap[b]? ∧ Below b w w2 := by
 have hlt := h.lt
 have hne : ∀ k, k ≤ b → some k ≠ v.ownBlock := by
  intro k hk e
  have := (ho.lt k e.symm).1
  omega
 have hsz := h0.size
 refine ⟨(hg.block b (by omega) (hne b (Nat.le_refl _))).trans (h0.block b (by omega)), ?_⟩
 exact ⟨hg.os.trans h0.os, hg.tape.trans h0.tape, hg.output.trans h0.output, Nat.le_trans hsz hg.size, fun k hk => (hg.block k (by omega) (hne k (by omega))).trans (h0.block k (by omega))⟩
theorem x_more {w w2 : World} {b : Nat} {s : XS} {x : Nt} {v' : Value} (h : XAt w b s) (hb : w2.heap[b]? = w.heap[b]?) (ho : w2.ownsRow (b + 1) 61 5 v' (s.notes.length + 1) (ntCells s.notes ++ ntCell x)) : XAt (w2.setCell ⟨b, 200, none⟩ v') b ⟨s.regs, s.notes ++ [x], s.pc⟩ := by
 have c : ∀ o, w2.cell? ⟨b, o, none⟩ = w.cell? ⟨b, o, none⟩ := fun o => World.cell?_of_block (a := ⟨b, o, none⟩) hb
 have f : ∀ o, w2.frozen? ⟨b, o, none⟩ = w.frozen? ⟨b, o, none⟩ := fun o => World.frozen?_of_block (a := ⟨b, o, none⟩) hb
 obtain ⟨hc, ⟨v0, hv0, _⟩, hp, fz⟩ := h
 refine ⟨fun k hk => ?_, ⟨v', by simp [go_sem, c, hv0], ?_⟩, by simp [go_sem, c, hp], fun o => by simp [go_sem, f, fz]⟩
 ·obtain ⟨e0, e1⟩ := hc k hk
  have n1 : ¬ 200 = k * 2 := by omega
  have n2 : ¬ 200 = k * 2 + 1 := by omega
  constructor
  ·simp [go_sem, c, e0, n1]
  ·simp [go_sem, c, e1, n2]
 ·have := ownsRow_setCell_below ho (a := ⟨b, 200, none⟩) (by simp) v'
  rw [ntCells_app]
  simpa [ntCells] using this
set_option maxRecDepth 100000 in
set_option maxHeartbeats 2000000 in
theorem leaveX_any (b : Nat) (s : XS) (kind : Int) (w : World) (hS : XAt w b s) (hnl : s.notes.length ≤ 100000) (op : Int) (a c d : Nat) (hd : d < 100) :
  Calls Tryz.prog 133 #[.pointer (some ⟨b, 0, none⟩), .int .i64 kind, icV ⟨op, a, c, d⟩] w (DoPost w b ⟨s.regs, s.notes ++ [⟨kind, a, c, s.regs.getD d vl0⟩], s.pc⟩) := by
 have hlt := hS.lt
 have hB : Below w.heap.size w (w.alloc (.cells (icCells ⟨op, a, c, d⟩) 87)) := (Below.refl _ _).alloc (Nat.le_refl _) _
 have hst := hS.keep hB (Nat.le_refl _)
 obtain ⟨r0, r1⟩ := hst.cell d hd
 have k1 : (w.alloc (.cells (icCells ⟨op, a, c, d⟩) 87)).cell? ⟨w.heap.size, 1, none⟩ = some (.int .i64 a) := by simp [go_sem]
 have k2 : (w.alloc (.cells (icCells ⟨op, a, c, d⟩) 87)).cell? ⟨w.heap.size, 2, none⟩ = some (.int .i64 c) := by simp [go_sem]
 have k3 : (w.alloc (.cells (icCells ⟨op, a, c, d⟩) 87)).cell? ⟨w.heap.size, 3, none⟩ = some (.int .i64 d) := by simp [go_sem]
 have hWs : (w.alloc (.cells (icCells ⟨op, a, c, d⟩) 87)).heap.size = w.heap.size + 1 := by simp
 have ia0 : (0 : Int) ≤ (d : Int) := by omega
 have ia1 : (d : Int) < 100 := by omega
 obtain ⟨iV, hiV, hzV, hsV, hbV⟩ := parts_of_info infoNote
 generalize s.regs.getD d vl0 = x at *
 clear hS
 go_enter Tryz.func133, Tryz.ntmps133
 go_upto_region 1 with fail
 generalize (w.alloc (.cells (icCells ⟨op, a, c, d⟩) 87)) = W at *
 have HST : Hid (XAt W b s) := hst
 have HB : Hid (Below w.heap.size w W) := hB
 have HK : Hid (∀ V : World, V.heap[w.heap.size]? = W.heap[w.heap.size]? → V.heap[b]? = W.heap[b]? → V.cell? ⟨w.heap.size, 1, none⟩ = some (.int .i64 a) ∧ V.cell? ⟨w.heap.size, 2, none⟩ = some (.int .i64 c) ∧ V.cell? ⟨w.heap.size, 3, none⟩ = some (.int .i64 d) ∧ V.cell? ⟨b, d * 2, none⟩ = some (.int .i64 x.num) ∧ V.cell? ⟨b, d * 2 + 1, none⟩ = some (.int .i64 x.fault)) := fun V e e' => ⟨(World.cell?_of_block (a := ⟨w.heap.size, 1, none⟩) e).trans k1, (World.cell?_of_block (a := ⟨w.heap.size, 2, none⟩) e).trans k2, (World.cell?_of_block (a := ⟨w.heap.size, 3, none⟩) e).trans k3, (World.cell?_of_block (a := ⟨b, d * 2, none⟩) e').trans r0, (World.cell?_of_block (a := ⟨b, d * 2 + 1, none⟩) e').trans r1⟩
 have hbW : w.heap.size < W.heap.size := by omega
 have hbb : b < W.heap.size := by omega
 have hn1 : w.heap.size ≠ W.heap.size := by omega
 have hn2 : b ≠ W.heap.size := by omega
 clear hst hB hWs r0 r1 k1 k2 k3
 go_cut [6] from 6 to 19 (fun y wx => y = .pointer (some ⟨W.heap.size, 0, none⟩) ∧ Below W.heap.size W wx ∧ wx.heap.size = W.heap.size + 1 ∧ wx.cell? ⟨W.heap.size, 0, none⟩ = some (.int .i64 kind) ∧ wx.cell? ⟨W.heap.size, 1, none⟩ = some (.int .i64 a) ∧ wx.cell? ⟨W.heap.size, 2, none⟩ = some (.int .i64 c) ∧ wx.cell? ⟨W.heap.size, 3, none⟩ = some (.int .i64 x.num) ∧ wx.cell? ⟨W.heap.size, 4, none⟩ = some (.int .i64 x.fault))
 case first =>
  go_region_held3 (fun w' => w'.cell? ⟨w.heap.size, 1, none⟩ = some (.int .i64 a) ∧ w'.cell? ⟨w.heap.size, 2, none⟩ = some (.int .i64 c) ∧ w'.cell? ⟨w.heap.size, 3, none⟩ = some (.int .i64 d) ∧ w'.cell? ⟨b, d * 2, none⟩ = some (.int .i64 x.num) ∧ w'.cell? ⟨b, d * 2 + 1, none⟩ = some (.int .i64 x.fault)) (first | exact HK.out _ rfl rfl | exact HK.out _ (Below.heap_alloc _ _ _ hbW) (Below.heap_alloc _ _ _ hbb)) (fail)
  all_goals (go_wp2_with fail; go_meet)
  all_goals exact ⟨rfl, ((Below.refl _ _).alloc (Nat.le_refl _) _).drew, by simp, by simp [go_sem], by simp [go_sem], by simp [go_sem], by simp [go_sem], by simp [go_sem]⟩
 case rest =>
  obtain ⟨rfl, hbx, hxs, m0, m1, m2, m3, m4⟩ := hcut
  have hSX : XAt wc b s := HST.out.keep hbx (Nat.le_refl _)
  have HBX : Hid (Below w.heap.size w wc) := HB.out.trans (hbx.mono (by omega))
  obtain ⟨v, hv, ho⟩ := hSX.row
  have fz := hSX.fz
  have HSX : Hid (XAt wc b s) := hSX
  have HO : Hid (wc.ownsRow (b + 1) 61 5 v s.notes.length (ntCells s.notes)) := ho
  have hn1 : ¬ b = wc.heap.size := by omega
  have hn3 : b < wc.heap.size := by omega
  have hn4 : W.heap.size < wc.heap.size := by omega
  have hn5 : ¬ W.heap.size = wc.heap.size := by omega
  clear hbx HST HB HK hSX ho
  go_upto_region 2 with fail
  go_region_law (refine rv_append2 rfl (.tmp 24) (.tmp 26) 51 rfl (b + 1) 61 iV (.agg #[.int .i64 0, .int .i64 0, .int .i64 0, .int .i64 0, .int .i64 0]) 5 40 Tryz.underlying51 hiV hzV hsV hbV rfl (by decide) v s.notes.length (ntCells s.notes) (by simp [Act.eval, Act.put]) (by exact (HO.out.alloc _).drew) ⟨wc.heap.size, 0, none⟩ 1 1 (ntCell ⟨kind, a, c, x⟩) (by simp [Act.eval, Act.put]) rfl (by exact nt_new wc ⟨kind, a, c, x⟩ 61) (by intro q hq; simp [ntCell] at hq; rcases hq with rfl | rfl | rfl | rfl | rfl <;> rfl) (by unfold maxLen; omega) (by omega) (by simp; omega) (by decide) ?_; intro v' w2 hown hgrow hfr; have hk := x_grown HSX.out HO.out (W := (wc.alloc (.cells #[.int .i64 kind, .int .i64 a, .int .i64 c, .int .i64 x.num, .int .i64 x.fault] 61)).drew) (((Below.refl _ _).alloc (Nat.le_refl _) _).drew) hgrow; have q0 : w2.cell? ⟨b, 200, none⟩ = some v := (World.cell?_of_block (a := ⟨b, 200, none⟩) hk.1).trans hv; have q1 : ∀ o, w2.frozen? ⟨b, o, none⟩ = false := (fun o => (World.frozen?_of_block (a := ⟨b, o, none⟩) hk.1).trans (fz o)); obtain ⟨g, cap, rfl⟩ := Joins.ownsRow_form hown (by omega))
  all_goals go_wp2_with fail
  all_goals go_end0
  all_goals exact ⟨rfl, x_more HSX.out hk.1 hown, ((HBX.out.mono (by omega)).trans hk.2).setCell (by simp) _⟩
end Go.Proofs.YtdgmoiflahoihaaGreatDoor
namespace Go.Proofs.YtdgmoiflahoihaaGreatDoor
open Go.RowKit
set_option linter.unusedSimpArgs false
set_option linter.unusedVariables false
set_option maxRecDepth 100000 in
set_option maxHeartbeats 1000000 in
theorem d_when (b : Nat) (s : XS) (w : World) (hS : XAt w b s) (hO : XOk s) (hpc : s.pc ≤ 2000) (fs : List Int) (vf : Value) (a c d : Nat) (ha : a < 100) :
  Calls Tryz.prog 99 #[.pointer (some ⟨b, 0, none⟩), icV ⟨13, a, c, d⟩, vf] w (DoPost w b (stepX ⟨13, a, c, d⟩ fs s)) := by
 have HE : Hid (stepX ⟨13, a, c, d⟩ fs s = ⟨s.regs, s.notes, if (s.regs.getD a vl0).fault ≠ 0 then d else if (s.regs.getD a vl0).num = 0 then c else s.pc + 1⟩) := by show _ = _; unfold stepX; simp [reg_nat]
 rw [HE.out]
 have HB : Hid _ := boxAt2 hS ⟨13, a, c, d⟩
 have hp := hS.pc
 have fz := hS.fz
 have hlt := hS.lt
 have HO : Hid (XOk s) := hO
 have hln : s.regs.length = 100 := hO.len
 clear hO HE hS
 go_enter Tryz.func99, Tryz.ntmps99
 go_upto_region 2 with fail
 generalize ((w.setCell ⟨b, 201, none⟩ (.int .i64 ((s.pc : Int) + 1))).alloc (.cells (icCells ⟨13, a, c, d⟩) 87)) = W at *
 obtain ⟨k0, k1, k2, k3, hst, hlow, hsz⟩ := HB.out
 simp only at k0 k1 k2 k3
 have hp2 := hst.pc
 have fz2 := hst.fz
 have HST : Hid (XAt W b ⟨s.regs, s.notes, s.pc + 1⟩) := hst
 have HLOW : Hid (Below b w W) := hlow
 have hbW : w.heap.size < W.heap.size := by omega
 have hbb : b < W.heap.size := by omega
 clear hlow HB hp fz
 have HCH : Hid (Calls Tryz.prog 132 #[.pointer (some ⟨b, 0, none⟩), icV ⟨13, a, c, d⟩] W (DoPost W b ⟨s.regs, s.notes, if (s.regs.getD a vl0).fault ≠ 0 then d else if (s.regs.getD a vl0).num = 0 then c else s.pc + 1⟩)) := choose_any b ⟨s.regs, s.notes, s.pc + 1⟩ W hst a c d ha
 clear hst
 generalize (if (s.regs.getD a vl0).fault ≠ 0 then d else if (s.regs.getD a vl0).num = 0 then c else s.pc + 1) = np at *
 go_wp2_with (go_at_call 132; refine HCH.out.mono ?_; rintro e1 w1 ⟨rfl, hx1, hb1⟩)
 go_end0
 exact ⟨rfl, hx1, HLOW.out.trans hb1⟩
set_option maxRecDepth 100000 in
set_option maxHeartbeats 1000000 in
theorem d_note14 (b : Nat) (s : XS) (w : World) (hS : XAt w b s) (hO : XOk s) (hpc : s.pc ≤ 2000) (fs : List Int) (vf : Value) (hnl : s.notes.length ≤ 100000) (a c d : Nat) (hd : d < 100) :
  Calls Tryz.prog 99 #[.pointer (some ⟨b, 0, none⟩), icV ⟨14, a, c, d⟩, vf] w (DoPost w b (stepX ⟨14, a, c, d⟩ fs s)) := by
 have HE : Hid (stepX ⟨14, a, c, d⟩ fs s = ⟨s.regs, s.notes ++ [⟨0, a, c, s.regs.getD d vl0⟩], s.pc + 1⟩) := by show _ = _; unfold stepX; simp [reg_nat]
 rw [HE.out]
 have HB : Hid _ := boxAt2 hS ⟨14, a, c, d⟩
 have hp := hS.pc
 have fz := hS.fz
 have hlt := hS.lt
 have HO : Hid (XOk s) := hO
 have hln : s.regs.length = 100 := hO.len
 clear hO HE hS
 go_enter Tryz.func99, Tryz.ntmps99
 go_upto_region 2 with fail
 generalize ((w.setCell ⟨b, 201, none⟩ (.int .i64 ((s.pc : Int) + 1))).alloc (.cells (icCells ⟨14, a, c, d⟩) 87)) = W at *
 obtain ⟨k0, k1, k2, k3, hst, hlow, hsz⟩ := HB.out
 simp only at k0 k1 k2 k3
 have hp2 := hst.pc
 have fz2 := hst.fz
 have HST : Hid (XAt W b ⟨s.regs, s.notes, s.pc + 1⟩) := hst
 have HLOW : Hid (Below b w W) := hlow
 have hbW : w.heap.size < W.heap.size := by omega
 have hbb : b < W.heap.size := by omega
 clear hlow HB hp fz
 have HCH : Hid (Calls Tryz.prog 133 #[.pointer (some ⟨b, 0, none⟩), .int .i64 0, icV ⟨14, a, c, d⟩] W (DoPost W b ⟨s.regs, s.notes ++ [⟨0, a, c, s.regs.getD d vl0⟩], s.pc + 1⟩)) := leaveX_any b ⟨s.regs, s.notes, s.pc + 1⟩ 0 W hst hnl 14 a c d hd
 clear hst
 go_wp2_with (go_at_call 133; refine HCH.out.mono ?_; rintro e1 w1 ⟨rfl, hx1, hb1⟩)
 go_end0
 exact ⟨rfl, hx1, HLOW.out.trans hb1⟩
set_option maxRecDepth 100000 in
set_option maxHeartbeats 1000000 in
theorem d_note15 (b : Nat) (s : XS) (w : World) (hS : XAt w b s) (hO : XOk s) (hpc : s.pc ≤ 2000) (fs : List Int) (vf : Value) (hnl : s.notes.length ≤ 100000) (a c d : Nat) (hd : d < 100) :
  Calls Tryz.prog 99 #[.pointer (some ⟨b, 0, none⟩), icV ⟨15, a, c, d⟩, vf] w (DoPost w b (stepX ⟨15, a, c, d⟩ fs s)) := by
 have HE : Hid (stepX ⟨15, a, c, d⟩ fs s = ⟨s.regs, s.notes ++ [⟨1, a, c, s.regs.getD d vl0⟩], s.pc + 1⟩) := by show _ = _; unfold stepX; simp [reg_nat]
 rw [HE.out]
 have HB : Hid _ := boxAt2 hS ⟨15, a, c, d⟩
 have hp := hS.pc
 have fz := hS.fz
 have hlt := hS.lt
 have HO : Hid (XOk s) := hO
 have hln : s.regs.length = 100 := hO.len
 clear hO HE hS
 go_enter Tryz.func99, Tryz.ntmps99
 go_upto_region 2 with fail
 generalize ((w.setCell ⟨b, 201, none⟩ (.int .i64 ((s.pc : Int) + 1))).alloc (.cells (icCells ⟨15, a, c, d⟩) 87)) = W at *
 obtain ⟨k0, k1, k2, k3, hst, hlow, hsz⟩ := HB.out
 simp only at k0 k1 k2 k3
 have hp2 := hst.pc
 have fz2 := hst.fz
 have HST : Hid (XAt W b ⟨s.regs, s.notes, s.pc + 1⟩) := hst
 have HLOW : Hid (Below b w W) := hlow
 have hbW : w.heap.size < W.heap.size := by omega
 have hbb : b < W.heap.size := by omega
 clear hlow HB hp fz
 have HCH : Hid (Calls Tryz.prog 133 #[.pointer (some ⟨b, 0, none⟩), .int .i64 1, icV ⟨15, a, c, d⟩] W (DoPost W b ⟨s.regs, s.notes ++ [⟨1, a, c, s.regs.getD d vl0⟩], s.pc + 1⟩)) := leaveX_any b ⟨s.regs, s.notes, s.pc + 1⟩ 1 W hst hnl 15 a c d hd
 clear hst
 go_wp2_with (go_at_call 133; refine HCH.out.mono ?_; rintro e1 w1 ⟨rfl, hx1, hb1⟩)
 go_end0
 exact ⟨rfl, hx1, HLOW.out.trans hb1⟩
set_option maxRecDepth 100000 in
set_option maxHeartbeats 2000000 in
theorem d_copy (b : Nat) (s : XS) (w : World) (hS : XAt w b s) (hO : XOk s) (hpc : s.pc ≤ 2000) (fs : List Int) (vf : Value) (a c : Nat) (d : Int) (ha : a < 100) (hc : c < 100) :
  Calls Tryz.prog 99 #[.pointer (some ⟨b, 0, none⟩), icV ⟨2, a, c, d⟩, vf] w (DoPost w b (stepX ⟨2, a, c, d⟩ fs s)) := by
 have HE : Hid (stepX ⟨2, a, c, d⟩ fs s = ⟨s.regs.set a (s.regs.getD c vl0), s.notes, s.pc + 1⟩) := by show _ = _; unfold stepX; simp [give_nat, reg_nat]
 rw [HE.out]
 have HB : Hid _ := boxAt2 hS ⟨2, a, c, d⟩
 have ia0 : (0 : Int) ≤ (a : Int) := by omega
 have ia1 : (a : Int) < 100 := by omega
 have ic0 : (0 : Int) ≤ (c : Int) := by omega
 have ic1 : (c : Int) < 100 := by omega
 have hp := hS.pc
 have fz := hS.fz
 have hlt := hS.lt
 have HO : Hid (XOk s) := hO
 have hln : s.regs.length = 100 := hO.len
 clear hO HE hS
 go_enter Tryz.func99, Tryz.ntmps99
 go_upto_region 2 with fail
 generalize ((w.setCell ⟨b, 201, none⟩ (.int .i64 ((s.pc : Int) + 1))).alloc (.cells (icCells ⟨2, a, c, d⟩) 87)) = W at *
 obtain ⟨k0, k1, k2, k3, hst, hlow, hsz⟩ := HB.out
 simp only at k0 k1 k2 k3
 have hp2 := hst.pc
 have fz2 := hst.fz
 have HST : Hid (XAt W b ⟨s.regs, s.notes, s.pc + 1⟩) := hst
 have HLOW : Hid (Below b w W) := hlow
 have hbW : w.heap.size < W.heap.size := by omega
 have hbb : b < W.heap.size := by omega
 clear hlow HB hp fz
 obtain ⟨a0, a1⟩ := hst.cell a ha
 obtain ⟨c0, c1⟩ := hst.cell c hc
 simp only at a0 a1 c0 c1
 clear hst
 generalize s.regs.getD c vl0 = x at *
 go_upto_region 7 with fail
 go_region
 all_goals go_wp2_with fail
 all_goals go_end0
 all_goals exact ⟨rfl, (HST.out.set hln a ha x).keep (Below.refl _ _).drew (Nat.le_refl _), ((HLOW.out.setCell (by simp) _).setCell (by simp) _).drew⟩
end Go.Proofs.YtdgmoiflahoihaaGreatDoor
namespace Go.Proofs.YtdgmoiflahoihaaGreatDoor
open Go.RowKit
set_option linter.unusedSimpArgs false
set_option linter.unusedVariables false
theorem x_after {W w5 : World} {b : Nat} {s : XS} (h : XAt W b s) (hb : Below W.drew.heap.size W.drew w5) : XAt w5 b s ∧ Below W.heap.size W w5 :=
 ⟨h.keep (B := W.heap.size) ⟨hb.os, hb.tape, hb.output, hb.size, hb.block⟩ (Nat.le_refl _), ⟨hb.os, hb.tape, hb.output, hb.size, hb.block⟩⟩
set_option maxRecDepth 100000 in
set_option maxHeartbeats 2000000 in
theorem d_set (b : Nat) (s : XS) (w : World) (hS : XAt w b s) (hO : XOk s) (hpc : s.pc ≤ 2000) (fs : List Int) (vf : Value) (a : Nat) (c d : Int) (ha : a < 100) :
  Calls Tryz.prog 99 #[.pointer (some ⟨b, 0, none⟩), icV ⟨1, a, c, d⟩, vf] w (DoPost w b (stepX ⟨1, a, c, d⟩ fs s)) := by
 have HE : Hid (stepX ⟨1, a, c, d⟩ fs s = ⟨s.regs.set a ⟨c, 0⟩, s.notes, s.pc + 1⟩) := by show _ = _; unfold stepX; simp [give_nat]
 rw [HE.out]
 have HB : Hid _ := boxAt2 hS ⟨1, a, c, d⟩
 have ia0 : (0 : Int) ≤ (a : Int) := by omega
 have ia1 : (a : Int) < 100 := by omega
 have HN : Hid (GivesV 100 #[.int .i64 c] ⟨c, 0⟩) := number_any c
 have hp := hS.pc
 have fz := hS.fz
 have hlt := hS.lt
 have HO : Hid (XOk s) := hO
 have hln : s.regs.length = 100 := hO.len
 clear hO HE hS
 go_enter Tryz.func99, Tryz.ntmps99
 go_upto_region 2 with fail
 generalize ((w.setCell ⟨b, 201, none⟩ (.int .i64 ((s.pc : Int) + 1))).alloc (.cells (icCells ⟨1, a, c, d⟩) 87)) = W at *
 obtain ⟨k0, k1, k2, k3, hst, hlow, hsz⟩ := HB.out
 simp only at k0 k1 k2 k3
 have hp2 := hst.pc
 have fz2 := hst.fz
 have HST : Hid (XAt W b ⟨s.regs, s.notes, s.pc + 1⟩) := hst
 have HLOW : Hid (Below b w W) := hlow
 have hbW : w.heap.size < W.heap.size := by omega
 have hbb : b < W.heap.size := by omega
 clear hlow HB hp fz
 clear hst
 have HK : Hid (∀ w' : World, w'.heap[w.heap.size]? = W.heap[w.heap.size]? → w'.cell? ⟨w.heap.size, 0, none⟩ = some (.int .i64 1) ∧ w'.cell? ⟨w.heap.size, 1, none⟩ = some (.int .i64 a) ∧ w'.cell? ⟨w.heap.size, 2, none⟩ = some (.int .i64 c) ∧ w'.cell? ⟨w.heap.size, 3, none⟩ = some (.int .i64 d)) := fun V e => ⟨(World.cell?_of_block (a := ⟨w.heap.size, 0, none⟩) e).trans k0, (World.cell?_of_block (a := ⟨w.heap.size, 1, none⟩) e).trans k1, (World.cell?_of_block (a := ⟨w.heap.size, 2, none⟩) e).trans k2, (World.cell?_of_block (a := ⟨w.heap.size, 3, none⟩) e).trans k3⟩
 have hne2 : w.heap.size ≠ b := by omega
 clear k0 k1 k2 k3
 have hpick := HK.out W rfl
 go_split_ands
 go_upto_region 5 with fail
 go_region_held3 (fun w' => w'.cell? ⟨w.heap.size, 0, none⟩ = some (.int .i64 1) ∧ w'.cell? ⟨w.heap.size, 1, none⟩ = some (.int .i64 a) ∧ w'.cell? ⟨w.heap.size, 2, none⟩ = some (.int .i64 c) ∧ w'.cell? ⟨w.heap.size, 3, none⟩ = some (.int .i64 d)) (first | exact HK.out _ rfl | exact HK.out _ (hb5.block _ hbW) | exact HK.out _ ((Below.heap_setCell _ _ _ _ hne2).trans ((Below.heap_setCell _ _ _ _ hne2).trans (hb5.block _ hbW)))) ((go_at_call 100; refine (HN.out _).mono ?_; rintro e5 w5 ⟨rfl, hb5⟩; have h5 := x_after HST.out hb5; have h5c := h5.1.cell a ha; have h5f := h5.1.fz; obtain ⟨q0, q1⟩ := h5c))
 all_goals go_wp2_with fail
 all_goals go_end0
 all_goals exact ⟨rfl, h5.1.set hln a ha ⟨c, 0⟩, ((HLOW.out.trans (h5.2.mono (by omega))).setCell (by simp) _).setCell (by simp) _⟩
set_option maxRecDepth 100000 in
set_option maxHeartbeats 4000000 in
theorem d_in (b : Nat) (s : XS) (w : World) (hS : XAt w b s) (hO : XOk s) (hpc : s.pc ≤ 2000) (fs : List Int) (af : Option Addr) (gf of capf : Nat) (hF : NumCells w af gf of fs) (hgb : ∀ i, i < fs.length → gf < b) (hfl : fs.length ≤ 9223372036854775807) (a c : Nat) (d : Int) (ha : a < 100) (hc : c < fs.length) :
  Calls Tryz.prog 99 #[.pointer (some ⟨b, 0, none⟩), icV ⟨11, a, c, d⟩, .slice af fs.length capf] w (DoPost w b (stepX ⟨11, a, c, d⟩ fs s)) := by
 obtain ⟨rfl, hgw, f0⟩ := hF c hc
 have hgf := hgb c hc
 have HE : Hid (stepX ⟨11, a, c, d⟩ fs s = ⟨s.regs.set a ⟨fs[c], 0⟩, s.notes, s.pc + 1⟩) := by
  show _ = _
  unfold stepX
  simp [give_nat, List.getElem?_eq_getElem hc]
 rw [HE.out]
 have HB : Hid _ := boxAt2 hS ⟨11, a, c, d⟩
 have ia0 : (0 : Int) ≤ (a : Int) := by omega
 have ia1 : (a : Int) < 100 := by omega
 have ic0 : (0 : Int) ≤ (c : Int) := by omega
 have ic1 : (c : Int) < (fs.length : Int) := by omega
 generalize fs[c] = x at *
 generalize fs.length = n at *
 have HN : Hid (GivesV 100 #[.int .i64 x] ⟨x, 0⟩) := number_any x
 clear hF hgb
 have hp := hS.pc
 have fz := hS.fz
 have hlt := hS.lt
 have HO : Hid (XOk s) := hO
 have hln : s.regs.length = 100 := hO.len
 clear hO HE hS
 go_enter Tryz.func99, Tryz.ntmps99
 go_upto_region 2 with fail
 generalize ((w.setCell ⟨b, 201, none⟩ (.int .i64 ((s.pc : Int) + 1))).alloc (.cells (icCells ⟨11, a, c, d⟩) 87)) = W at *
 obtain ⟨k0, k1, k2, k3, hst, hlow, hsz⟩ := HB.out
 simp only at k0 k1 k2 k3
 have hp2 := hst.pc
 have fz2 := hst.fz
 have HST : Hid (XAt W b ⟨s.regs, s.notes, s.pc + 1⟩) := hst
 have HLOW : Hid (Below b w W) := hlow
 have hbW : w.heap.size < W.heap.size := by omega
 have hbb : b < W.heap.size := by omega
 clear hlow HB hp fz
 clear hst
 have f1 : W.cell? ⟨gf, of + c, none⟩ = some (.int .i64 x) := (HLOW.out.cell (p := ⟨gf, of + c, none⟩) hgf).trans f0
 have HK : Hid (∀ w' : World, w'.heap[w.heap.size]? = W.heap[w.heap.size]? → w'.heap[gf]? = W.heap[gf]? → w'.cell? ⟨w.heap.size, 0, none⟩ = some (.int .i64 11) ∧ w'.cell? ⟨w.heap.size, 1, none⟩ = some (.int .i64 a) ∧ w'.cell? ⟨w.heap.size, 2, none⟩ = some (.int .i64 c) ∧ w'.cell? ⟨w.heap.size, 3, none⟩ = some (.int .i64 d) ∧ w'.cell? ⟨gf, of + c, none⟩ = some (.int .i64 x)) := fun V e e' => ⟨(World.cell?_of_block (a := ⟨w.heap.size, 0, none⟩) e).trans k0, (World.cell?_of_block (a := ⟨w.heap.size, 1, none⟩) e).trans k1, (World.cell?_of_block (a := ⟨w.heap.size, 2, none⟩) e).trans k2, (World.cell?_of_block (a := ⟨w.heap.size, 3, none⟩) e).trans k3, (World.cell?_of_block (a := ⟨gf, of + c, none⟩) e').trans f1⟩
 have hne2 : w.heap.size ≠ b := by omega
 have hne3 : gf ≠ b := by omega
 have hgW : gf < W.heap.size := by omega
 clear k0 k1 k2 k3 f0 f1
 have hpick := HK.out W rfl rfl
 go_split_ands
 go_upto_region 11 with fail
 go_region_held3 (fun w' => w'.cell? ⟨w.heap.size, 0, none⟩ = some (.int .i64 11) ∧ w'.cell? ⟨w.heap.size, 1, none⟩ = some (.int .i64 a) ∧ w'.cell? ⟨w.heap.size, 2, none⟩ = some (.int .i64 c) ∧ w'.cell? ⟨w.heap.size, 3, none⟩ = some (.int .i64 d) ∧ w'.cell? ⟨gf, of + c, none⟩ = some (.int .i64 x)) (first | exact HK.out _ rfl rfl | exact HK.out _ (hb5.block _ hbW) (hb5.block _ hgW) | exact HK.out _ ((Below.heap_setCell _ _ _ _ hne2).trans ((Below.heap_setCell _ _ _ _ hne2).trans (hb5.block _ hbW))) ((Below.heap_setCell _ _ _ _ hne3).trans ((Below.heap_setCell _ _ _ _ hne3).trans (hb5.block _ hgW)))) ((go_at_call 100; refine (HN.out _).mono ?_; rintro e5 w5 ⟨rfl, hb5⟩; have h5 := x_after HST.out hb5; have h5c := h5.1.cell a ha; have h5f := h5.1.fz; obtain ⟨q0, q1⟩ := h5c))
 all_goals go_wp2_with fail
 all_goals go_end0
 all_goals exact ⟨rfl, h5.1.set hln a ha ⟨x, 0⟩, ((HLOW.out.trans (h5.2.mono (by omega))).setCell (by simp) _).setCell (by simp) _⟩
end Go.Proofs.YtdgmoiflahoihaaGreatDoor
