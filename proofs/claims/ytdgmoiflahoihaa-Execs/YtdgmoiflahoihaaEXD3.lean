import Derived.Test.YtdgmoiflahoihaaEXD2

namespace Go.Proofs.Ytdgmoiflahoihaa
open Go.RowKit
set_option linter.unusedSimpArgs false
set_option linter.unusedVariables false
set_option maxRecDepth 100000 in
set_option maxHeartbeats 1000000 in
theorem d_when (b : Nat) (s : XS) (w : World) (hS : XAt w b s) (hO : XOk s) (hpc : s.pc ≤ 2000) (fs : List Int) (vf : Value) (a c d : Nat) (ha : a < 100) :
  Calls Try.prog 94 #[.pointer (some ⟨b, 0, none⟩), icV ⟨13, a, c, d⟩, vf] w (DoPost w b (stepX ⟨13, a, c, d⟩ fs s)) := by
 have HE : Hid (stepX ⟨13, a, c, d⟩ fs s = ⟨s.regs, s.notes, if (s.regs.getD a vl0).fault ≠ 0 then d else if (s.regs.getD a vl0).num = 0 then c else s.pc + 1⟩) := by show _ = _; unfold stepX; simp [reg_nat]
 rw [HE.out]
 have HB : Hid _ := boxAt2 hS ⟨13, a, c, d⟩
 have hp := hS.pc
 have fz := hS.fz
 have hlt := hS.lt
 have HO : Hid (XOk s) := hO
 have hln : s.regs.length = 100 := hO.len
 clear hO HE hS
 go_enter Try.func94, Try.ntmps94
 go_upto_region 2 with fail
 generalize ((w.setCell ⟨b, 201, none⟩ (.int .i64 ((s.pc : Int) + 1))).alloc (.cells (icCells ⟨13, a, c, d⟩) 70)) = W at *
 obtain ⟨k0, k1, k2, k3, hst, hlow, hsz⟩ := HB.out
 simp only at k0 k1 k2 k3
 have hp2 := hst.pc
 have fz2 := hst.fz
 have HST : Hid (XAt W b ⟨s.regs, s.notes, s.pc + 1⟩) := hst
 have HLOW : Hid (Below b w W) := hlow
 have hbW : w.heap.size < W.heap.size := by omega
 have hbb : b < W.heap.size := by omega
 clear hlow HB hp fz
 have HCH : Hid (Calls Try.prog 115 #[.pointer (some ⟨b, 0, none⟩), icV ⟨13, a, c, d⟩] W (DoPost W b ⟨s.regs, s.notes, if (s.regs.getD a vl0).fault ≠ 0 then d else if (s.regs.getD a vl0).num = 0 then c else s.pc + 1⟩)) := choose_any b ⟨s.regs, s.notes, s.pc + 1⟩ W hst a c d ha
 clear hst
 generalize (if (s.regs.getD a vl0).fault ≠ 0 then d else if (s.regs.getD a vl0).num = 0 then c else s.pc + 1) = np at *
 go_wp2_with (go_at_call 115; refine HCH.out.mono ?_; rintro e1 w1 ⟨rfl, hx1, hb1⟩)
 go_end0
 exact ⟨rfl, hx1, HLOW.out.trans hb1⟩
set_option maxRecDepth 100000 in
set_option maxHeartbeats 1000000 in
theorem d_note14 (b : Nat) (s : XS) (w : World) (hS : XAt w b s) (hO : XOk s) (hpc : s.pc ≤ 2000) (fs : List Int) (vf : Value) (hnl : s.notes.length ≤ 100000) (a c d : Nat) (hd : d < 100) :
  Calls Try.prog 94 #[.pointer (some ⟨b, 0, none⟩), icV ⟨14, a, c, d⟩, vf] w (DoPost w b (stepX ⟨14, a, c, d⟩ fs s)) := by
 have HE : Hid (stepX ⟨14, a, c, d⟩ fs s = ⟨s.regs, s.notes ++ [⟨0, a, c, s.regs.getD d vl0⟩], s.pc + 1⟩) := by show _ = _; unfold stepX; simp [reg_nat]
 rw [HE.out]
 have HB : Hid _ := boxAt2 hS ⟨14, a, c, d⟩
 have hp := hS.pc
 have fz := hS.fz
 have hlt := hS.lt
 have HO : Hid (XOk s) := hO
 have hln : s.regs.length = 100 := hO.len
 clear hO HE hS
 go_enter Try.func94, Try.ntmps94
 go_upto_region 2 with fail
 generalize ((w.setCell ⟨b, 201, none⟩ (.int .i64 ((s.pc : Int) + 1))).alloc (.cells (icCells ⟨14, a, c, d⟩) 70)) = W at *
 obtain ⟨k0, k1, k2, k3, hst, hlow, hsz⟩ := HB.out
 simp only at k0 k1 k2 k3
 have hp2 := hst.pc
 have fz2 := hst.fz
 have HST : Hid (XAt W b ⟨s.regs, s.notes, s.pc + 1⟩) := hst
 have HLOW : Hid (Below b w W) := hlow
 have hbW : w.heap.size < W.heap.size := by omega
 have hbb : b < W.heap.size := by omega
 clear hlow HB hp fz
 have HCH : Hid (Calls Try.prog 116 #[.pointer (some ⟨b, 0, none⟩), .int .i64 0, icV ⟨14, a, c, d⟩] W (DoPost W b ⟨s.regs, s.notes ++ [⟨0, a, c, s.regs.getD d vl0⟩], s.pc + 1⟩)) := leaveX_any b ⟨s.regs, s.notes, s.pc + 1⟩ 0 W hst hnl 14 a c d hd
 clear hst
 go_wp2_with (go_at_call 116; refine HCH.out.mono ?_; rintro e1 w1 ⟨rfl, hx1, hb1⟩)
 go_end0
 exact ⟨rfl, hx1, HLOW.out.trans hb1⟩
set_option maxRecDepth 100000 in
set_option maxHeartbeats 1000000 in
theorem d_note15 (b : Nat) (s : XS) (w : World) (hS : XAt w b s) (hO : XOk s) (hpc : s.pc ≤ 2000) (fs : List Int) (vf : Value) (hnl : s.notes.length ≤ 100000) (a c d : Nat) (hd : d < 100) :
  Calls Try.prog 94 #[.pointer (some ⟨b, 0, none⟩), icV ⟨15, a, c, d⟩, vf] w (DoPost w b (stepX ⟨15, a, c, d⟩ fs s)) := by
 have HE : Hid (stepX ⟨15, a, c, d⟩ fs s = ⟨s.regs, s.notes ++ [⟨1, a, c, s.regs.getD d vl0⟩], s.pc + 1⟩) := by show _ = _; unfold stepX; simp [reg_nat]
 rw [HE.out]
 have HB : Hid _ := boxAt2 hS ⟨15, a, c, d⟩
 have hp := hS.pc
 have fz := hS.fz
 have hlt := hS.lt
 have HO : Hid (XOk s) := hO
 have hln : s.regs.length = 100 := hO.len
 clear hO HE hS
 go_enter Try.func94, Try.ntmps94
 go_upto_region 2 with fail
 generalize ((w.setCell ⟨b, 201, none⟩ (.int .i64 ((s.pc : Int) + 1))).alloc (.cells (icCells ⟨15, a, c, d⟩) 70)) = W at *
 obtain ⟨k0, k1, k2, k3, hst, hlow, hsz⟩ := HB.out
 simp only at k0 k1 k2 k3
 have hp2 := hst.pc
 have fz2 := hst.fz
 have HST : Hid (XAt W b ⟨s.regs, s.notes, s.pc + 1⟩) := hst
 have HLOW : Hid (Below b w W) := hlow
 have hbW : w.heap.size < W.heap.size := by omega
 have hbb : b < W.heap.size := by omega
 clear hlow HB hp fz
 have HCH : Hid (Calls Try.prog 116 #[.pointer (some ⟨b, 0, none⟩), .int .i64 1, icV ⟨15, a, c, d⟩] W (DoPost W b ⟨s.regs, s.notes ++ [⟨1, a, c, s.regs.getD d vl0⟩], s.pc + 1⟩)) := leaveX_any b ⟨s.regs, s.notes, s.pc + 1⟩ 1 W hst hnl 15 a c d hd
 clear hst
 go_wp2_with (go_at_call 116; refine HCH.out.mono ?_; rintro e1 w1 ⟨rfl, hx1, hb1⟩)
 go_end0
 exact ⟨rfl, hx1, HLOW.out.trans hb1⟩
set_option maxRecDepth 100000 in
set_option maxHeartbeats 2000000 in
theorem d_copy (b : Nat) (s : XS) (w : World) (hS : XAt w b s) (hO : XOk s) (hpc : s.pc ≤ 2000) (fs : List Int) (vf : Value) (a c : Nat) (d : Int) (ha : a < 100) (hc : c < 100) :
  Calls Try.prog 94 #[.pointer (some ⟨b, 0, none⟩), icV ⟨2, a, c, d⟩, vf] w (DoPost w b (stepX ⟨2, a, c, d⟩ fs s)) := by
 have HE : Hid (stepX ⟨2, a, c, d⟩ fs s = ⟨s.regs.set a (s.regs.getD c vl0), s.notes, s.pc + 1⟩) := by show _ = _; unfold stepX; simp [give_nat, reg_nat]
 rw [HE.out]
 have HB : Hid _ := boxAt2 hS ⟨2, a, c, d⟩
 have ia0 : (0 : Int) ≤ (a : Int) := by omega
 have ia1 : (a : Int) < 100 := by omega
 have ic0 : (0 : Int) ≤ (c : Int) := by omega
 have ic1 : (c : Int) < 100 := by omega
 have hp := hS.pc
 have fz := hS.fz
 have hlt := hS.lt
 have HO : Hid (XOk s) := hO
 have hln : s.regs.length = 100 := hO.len
 clear hO HE hS
 go_enter Try.func94, Try.ntmps94
 go_upto_region 2 with fail
 generalize ((w.setCell ⟨b, 201, none⟩ (.int .i64 ((s.pc : Int) + 1))).alloc (.cells (icCells ⟨2, a, c, d⟩) 70)) = W at *
 obtain ⟨k0, k1, k2, k3, hst, hlow, hsz⟩ := HB.out
 simp only at k0 k1 k2 k3
 have hp2 := hst.pc
 have fz2 := hst.fz
 have HST : Hid (XAt W b ⟨s.regs, s.notes, s.pc + 1⟩) := hst
 have HLOW : Hid (Below b w W) := hlow
 have hbW : w.heap.size < W.heap.size := by omega
 have hbb : b < W.heap.size := by omega
 clear hlow HB hp fz
 obtain ⟨a0, a1⟩ := hst.cell a ha
 obtain ⟨c0, c1⟩ := hst.cell c hc
 simp only at a0 a1 c0 c1
 clear hst
 generalize s.regs.getD c vl0 = x at *
 go_upto_region 7 with fail
 go_region
 all_goals go_wp2_with fail
 all_goals go_end0
 all_goals exact ⟨rfl, (HST.out.set hln a ha x).keep (Below.refl _ _).drew (Nat.le_refl _), ((HLOW.out.setCell (by simp) _).setCell (by simp) _).drew⟩
end Go.Proofs.Ytdgmoiflahoihaa
