import Derived.Test.YtdgmoiflahoihaaEXT

namespace Go.Proofs.Ytdgmoiflahoihaa
open Go.RowKit
set_option linter.unusedSimpArgs false
set_option linter.unusedVariables false
theorem turn_set {w : World} {g : Nat} {l : List Vl} {ob : Obj} (h : RegsAt w g l) (i : Nat) (hi : i < l.length) (x : Vl) :
  RegsAt (((w.setCell ⟨g, i * 2, none⟩ (.int .i64 x.num)).setCell ⟨g, i * 2 + 1, none⟩ (.int .i64 x.fault)).alloc ob) g (l.set i x) ∧ But g w (((w.setCell ⟨g, i * 2, none⟩ (.int .i64 x.num)).setCell ⟨g, i * 2 + 1, none⟩ (.int .i64 x.fault)).alloc ob) := by
 have hlt := h.lt
 refine ⟨(h.set i hi x).block (Below.heap_alloc _ _ _ (by simpa using hlt)), ?_⟩
 exact (((But.refl g w).set _ _).set _ _).alloc _
set_option maxRecDepth 100000 in
set_option maxHeartbeats 1000000 in
theorem t_set (g : Nat) (s : XS) (w : World) (hR : RegsAt w g s.regs) (hO : XOk s) (hpc : s.pc ≤ 2000) (fs : List Int) (af : Option Addr) (gf of capf : Nat) (a : Nat) (b c : Int) (ha : a < 100) :
  Calls Try.prog 65 #[icV ⟨1, a, b, c⟩, .int .i64 s.pc, .slice (some ⟨g, 0, none⟩) 100 100, .slice af fs.length capf] w (TurnPost w g (stepX ⟨1, a, b, c⟩ fs s)) := by
 have HE : Hid (stepX ⟨1, a, b, c⟩ fs s = ⟨s.regs.set a ⟨b, 0⟩, s.notes, s.pc + 1⟩) := by show _ = _; unfold stepX; simp [give_nat]
 rw [HE.out]
 obtain ⟨c0, c1⟩ := hR.cell a (by rw [hO.len]; exact ha)
 have fz := hR.fz
 have HR : Hid (RegsAt w g s.regs) := hR
 have hal : a < s.regs.length := by rw [hO.len]; exact ha
 have hlt := hR.lt
 clear hR hO
 go_enter Try.func65, Try.ntmps65
 go_wp2_with fail
 go_ret
 exact ⟨rfl, turn_set HR.out a hal ⟨b, 0⟩⟩
set_option maxRecDepth 100000 in
set_option maxHeartbeats 1000000 in
theorem t_note (g : Nat) (s : XS) (w : World) (hR : RegsAt w g s.regs) (hO : XOk s) (hpc : s.pc ≤ 2000) (fs : List Int) (af : Option Addr) (gf of capf : Nat) (o a b c : Int) (ho : o = 14 ∨ o = 15) :
  Calls Try.prog 65 #[icV ⟨o, a, b, c⟩, .int .i64 s.pc, .slice (some ⟨g, 0, none⟩) 100 100, .slice af fs.length capf] w (TurnPost w g (stepX ⟨o, a, b, c⟩ fs s)) := by
 have HE : Hid (∃ N, stepX ⟨o, a, b, c⟩ fs s = ⟨s.regs, N, s.pc + 1⟩) := by
  rcases ho with rfl | rfl
  ·exact ⟨_, by unfold stepX; simp; rfl⟩
  ·exact ⟨_, by unfold stepX; simp; rfl⟩
 obtain ⟨N, hN⟩ := HE.out
 rw [hN]
 have HR : Hid (RegsAt w g s.regs) := hR
 have hlt := hR.lt
 clear hR hO hN HE
 rcases ho with rfl | rfl
 ·go_enter Try.func65, Try.ntmps65
  go_wp2_with fail
  go_ret
  exact ⟨rfl, HR.out.block (Below.heap_alloc _ _ _ hlt), but_alloc _⟩
 ·go_enter Try.func65, Try.ntmps65
  go_wp2_with fail
  go_ret
  exact ⟨rfl, HR.out.block (Below.heap_alloc _ _ _ hlt), but_alloc _⟩
set_option maxRecDepth 100000 in
set_option maxHeartbeats 2000000 in
theorem t_when (g : Nat) (s : XS) (w : World) (hR : RegsAt w g s.regs) (hO : XOk s) (hpc : s.pc ≤ 2000) (fs : List Int) (af : Option Addr) (gf of capf : Nat) (a b c : Nat) (ha : a < 100) :
  Calls Try.prog 65 #[icV ⟨13, a, b, c⟩, .int .i64 s.pc, .slice (some ⟨g, 0, none⟩) 100 100, .slice af fs.length capf] w (TurnPost w g (stepX ⟨13, a, b, c⟩ fs s)) := by
 have HE : Hid (stepX ⟨13, a, b, c⟩ fs s = ⟨s.regs, s.notes, if (s.regs.getD a vl0).fault ≠ 0 then c else if (s.regs.getD a vl0).num = 0 then b else s.pc + 1⟩) := by show _ = _; unfold stepX; simp [reg_nat]
 rw [HE.out]
 obtain ⟨c0, c1⟩ := hR.cell a (by rw [hO.len]; exact ha)
 have HR : Hid (RegsAt w g s.regs) := hR
 have hlt := hR.lt
 generalize s.regs.getD a vl0 = x at *
 obtain ⟨xn, xf⟩ := x
 simp only at c0 c1 ⊢
 clear hR hO HE
 by_cases f0 : xf = 0
 ·subst f0
  by_cases n0 : xn = 0
  ·subst n0
   go_enter Try.func65, Try.ntmps65
   go_wp2_with fail
   go_ret
   exact ⟨by simp, HR.out.block ((Below.heap_alloc _ _ _ (by simp; omega)).trans (Below.heap_alloc _ _ _ hlt)), (but_alloc _).alloc _⟩
  ·have t : (xn == 0) = false := by simpa using n0
   go_enter Try.func65, Try.ntmps65
   go_wp2_with fail
   go_ret
   exact ⟨by simp [n0], HR.out.block ((Below.heap_alloc _ _ _ (by simp; omega)).trans (Below.heap_alloc _ _ _ hlt)), (but_alloc _).alloc _⟩
 ·have t : (xf != 0) = true := by simpa using f0
  go_enter Try.func65, Try.ntmps65
  go_wp2_with fail
  go_ret
  exact ⟨by simp [f0], HR.out.block ((Below.heap_alloc _ _ _ (by simp; omega)).trans (Below.heap_alloc _ _ _ hlt)), (but_alloc _).alloc _⟩
set_option maxRecDepth 100000 in
set_option maxHeartbeats 2000000 in
theorem t_copy (g : Nat) (s : XS) (w : World) (hR : RegsAt w g s.regs) (hO : XOk s) (hpc : s.pc ≤ 2000) (fs : List Int) (af : Option Addr) (gf of capf : Nat) (a b : Nat) (c : Int) (ha : a < 100) (hb : b < 100) :
  Calls Try.prog 65 #[icV ⟨2, a, b, c⟩, .int .i64 s.pc, .slice (some ⟨g, 0, none⟩) 100 100, .slice af fs.length capf] w (TurnPost w g (stepX ⟨2, a, b, c⟩ fs s)) := by
 have HE : Hid (stepX ⟨2, a, b, c⟩ fs s = ⟨s.regs.set a (s.regs.getD b vl0), s.notes, s.pc + 1⟩) := by show _ = _; unfold stepX; simp [give_nat, reg_nat]
 rw [HE.out]
 obtain ⟨c0, c1⟩ := hR.cell a (by rw [hO.len]; exact ha)
 obtain ⟨d0, d1⟩ := hR.cell b (by rw [hO.len]; exact hb)
 have fz := hR.fz
 have HR : Hid (RegsAt w g s.regs) := hR
 have hal : a < s.regs.length := by rw [hO.len]; exact ha
 have hlt := hR.lt
 generalize s.regs.getD b vl0 = x at *
 clear hR hO HE
 go_enter Try.func65, Try.ntmps65
 go_upto_region 14 with fail
 go_region
 all_goals go_wp2_with fail
 all_goals go_ret
 all_goals exact ⟨rfl, ((turn_set HR.out a hal x).1).block rfl, (turn_set HR.out a hal x).2.drewN 1⟩
end Go.Proofs.Ytdgmoiflahoihaa
