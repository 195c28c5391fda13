import Derived.Test.YtdgmoiflahoihaaEXN
import Derived.Deep.RegionWith
import Derived.Deep.RegionHeld3

namespace Go.Proofs.Ytdgmoiflahoihaa
open Go.RowKit
set_option linter.unusedSimpArgs false
set_option linter.unusedVariables false
structure XAt (w : World) (b : Nat) (s : XS) : Prop where
 cell : ∀ k, k < 100 → w.cell? ⟨b, k * 2, none⟩ = some (.int .i64 (s.regs.getD k vl0).num) ∧ w.cell? ⟨b, k * 2 + 1, none⟩ = some (.int .i64 (s.regs.getD k vl0).fault)
 row : ∃ v, w.cell? ⟨b, 200, none⟩ = some v ∧ w.ownsRow (b + 1) 88 5 v s.notes.length (ntCells s.notes)
 pc : w.cell? ⟨b, 201, none⟩ = some (.int .i64 s.pc)
 fz : ∀ o, w.frozen? ⟨b, o, none⟩ = false
theorem XAt.lt {w : World} {b : Nat} {s : XS} (h : XAt w b s) : b < w.heap.size := World.block_lt_of_cell? w _ h.pc
theorem XAt.keep {w w' : World} {b B : Nat} {s : XS} (h : XAt w b s) (hb : Below B w w') (hB : w.heap.size ≤ B) : XAt w' b s := by
 have hlt := h.lt
 obtain ⟨hc, ⟨v, c, ho⟩, hp, fz⟩ := h
 exact ⟨fun k hk => ⟨(hb.cell (p := ⟨b, k * 2, none⟩) (by simp only; omega)).trans (hc k hk).1, (hb.cell (p := ⟨b, k * 2 + 1, none⟩) (by simp only; omega)).trans (hc k hk).2⟩, ⟨v, (hb.cell (p := ⟨b, 200, none⟩) (by simp only; omega)).trans c, own_low ho hb hB⟩, (hb.cell (p := ⟨b, 201, none⟩) (by simp only; omega)).trans hp, fun o => (hb.frozen (p := ⟨b, o, none⟩) (by simp only; omega)).trans (fz o)⟩
theorem XAt.goto {w : World} {b : Nat} {s : XS} (h : XAt w b s) (n : Nat) : XAt (w.setCell ⟨b, 201, none⟩ (.int .i64 n)) b ⟨s.regs, s.notes, n⟩ := by
 obtain ⟨hc, ⟨v, c, ho⟩, hp, fz⟩ := h
 refine ⟨fun k hk => ?_, ⟨v, by simp [go_sem, c], ownsRow_setCell_below ho (a := ⟨b, 201, none⟩) (by simp) _⟩, by simp [go_sem, hp], fun o => by simp [go_sem, fz]⟩
 obtain ⟨e0, e1⟩ := hc k hk
 have n1 : ¬ 201 = k * 2 := by omega
 have n2 : ¬ 201 = k * 2 + 1 := by omega
 constructor
 ·simp [go_sem, e0, n1]
 ·simp [go_sem, e1, n2]
theorem XAt.set {w : World} {b : Nat} {s : XS} (h : XAt w b s) (hl : s.regs.length = 100) (i : Nat) (hi : i < 100) (x : Vl) : XAt ((w.setCell ⟨b, i * 2, none⟩ (.int .i64 x.num)).setCell ⟨b, i * 2 + 1, none⟩ (.int .i64 x.fault)) b ⟨s.regs.set i x, s.notes, s.pc⟩ := by
 obtain ⟨hc, ⟨v, c, ho⟩, hp, fz⟩ := h
 refine ⟨fun k hk => ?_, ⟨v, ?_, ?_⟩, ?_, fun o => by simp [go_sem, fz]⟩
 ·obtain ⟨e0, e1⟩ := hc k hk
  obtain ⟨f0, f1⟩ := hc i hi
  by_cases hik : i = k
  ·subst hik
   have e : (s.regs.set i x).getD i vl0 = x := by rw [List.getD_eq_getElem?_getD, List.getElem?_set_self (by omega)]; rfl
   simp only [e]
   constructor <;> simp [go_sem, f0, f1]
  ·have e : (s.regs.set i x).getD k vl0 = s.regs.getD k vl0 := by rw [List.getD_eq_getElem?_getD, List.getElem?_set_ne hik, List.getD_eq_getElem?_getD]
   simp only [e]
   have n1 : ¬ i * 2 = k * 2 := by omega
   have n2 : ¬ i * 2 + 1 = k * 2 := by omega
   have n3 : ¬ i * 2 = k * 2 + 1 := by omega
   have n4 : ¬ i * 2 + 1 = k * 2 + 1 := by omega
   constructor
   ·simp [go_sem, e0, n1, n2]
   ·simp [go_sem, e1, n3, n4, hik]
 ·have n1 : ¬ i * 2 = 200 := by omega
  have n2 : ¬ i * 2 + 1 = 200 := by omega
  simp [go_sem, c, n1, n2]
 ·exact ownsRow_setCell_below (ownsRow_setCell_below ho (a := ⟨b, i * 2, none⟩) (by simp) _) (a := ⟨b, i * 2 + 1, none⟩) (by simp) _
 ·have n1 : ¬ i * 2 = 201 := by omega
  have n2 : ¬ i * 2 + 1 = 201 := by omega
  simp [go_sem, hp, n1, n2]
def DoPost (w : World) (b : Nat) (s : XS) (e : Ending) (w' : World) : Prop := e = .returned (.tuple #[]) ∧ XAt w' b s ∧ Below b w w'
structure BoxAt2 (w W : World) (b : Nat) (s : XS) (x : Ic) : Prop where
 k0 : W.cell? ⟨w.heap.size, 0, none⟩ = some (.int .i64 x.op)
 k1 : W.cell? ⟨w.heap.size, 1, none⟩ = some (.int .i64 x.a)
 k2 : W.cell? ⟨w.heap.size, 2, none⟩ = some (.int .i64 x.b)
 k3 : W.cell? ⟨w.heap.size, 3, none⟩ = some (.int .i64 x.c)
 st : XAt W b ⟨s.regs, s.notes, s.pc + 1⟩
 low : Below b w W
 size : W.heap.size = w.heap.size + 1
theorem boxAt2 {w : World} {b : Nat} {s : XS} (h : XAt w b s) (x : Ic) : BoxAt2 w ((w.setCell ⟨b, 201, none⟩ (.int .i64 ((s.pc : Int) + 1))).alloc (.cells (icCells x) 70)) b s x := by
 have hlt := h.lt
 have hs : (w.setCell ⟨b, 201, none⟩ (.int .i64 ((s.pc : Int) + 1))).heap.size = w.heap.size := by simp
 refine ⟨?_, ?_, ?_, ?_, ?_, ?_, ?_⟩
 ·simp [go_sem]
 ·simp [go_sem]
 ·simp [go_sem]
 ·simp [go_sem]
 ·have k := h.goto (s.pc + 1)
  exact k.keep ((Below.refl _ _).alloc (Nat.le_refl _) _) (Nat.le_refl _)
 ·exact ((Below.refl b w).setCell (by simp) _).alloc (by rw [hs]; omega) _
 ·simp
set_option maxRecDepth 100000 in
set_option maxHeartbeats 1000000 in
theorem d_jump (b : Nat) (s : XS) (w : World) (hS : XAt w b s) (hO : XOk s) (hpc : s.pc ≤ 2000) (fs : List Int) (vf : Value) (a : Nat) (c d : Int) :
  Calls Try.prog 94 #[.pointer (some ⟨b, 0, none⟩), icV ⟨12, a, c, d⟩, vf] w (DoPost w b (stepX ⟨12, a, c, d⟩ fs s)) := by
 have HE : Hid (stepX ⟨12, a, c, d⟩ fs s = ⟨s.regs, s.notes, a⟩) := by show _ = _; unfold stepX; simp
 rw [HE.out]
 have HB : Hid _ := boxAt2 hS ⟨12, a, c, d⟩
 have hp := hS.pc
 have fz := hS.fz
 have hlt := hS.lt
 clear hO HE hS
 go_enter Try.func94, Try.ntmps94
 go_upto_region 2 with fail
 generalize ((w.setCell ⟨b, 201, none⟩ (.int .i64 ((s.pc : Int) + 1))).alloc (.cells (icCells ⟨12, a, c, d⟩) 70)) = W at *
 obtain ⟨k0, k1, k2, k3, hst, hlow, hsz⟩ := HB.out
 simp only at k0 k1 k2 k3
 have hp2 := hst.pc
 have fz2 := hst.fz
 have HST : Hid (XAt W b ⟨s.regs, s.notes, s.pc + 1⟩) := hst
 have HLOW : Hid (Below b w W) := hlow
 clear hst hlow HB hp fz
 go_wp2_with fail
 go_end0
 exact ⟨rfl, HST.out.goto a, HLOW.out.setCell (by simp) _⟩
end Go.Proofs.Ytdgmoiflahoihaa
