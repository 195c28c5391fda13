import Derived.Test.YtdgmoiflahoihaaEXD3

namespace Go.Proofs.Ytdgmoiflahoihaa
open Go.RowKit
set_option linter.unusedSimpArgs false
set_option linter.unusedVariables false
theorem x_after {W w5 : World} {b : Nat} {s : XS} (h : XAt W b s) (hb : Below W.drew.heap.size W.drew w5) : XAt w5 b s ∧ Below W.heap.size W w5 :=
 ⟨h.keep (B := W.heap.size) ⟨hb.os, hb.tape, hb.output, hb.size, hb.block⟩ (Nat.le_refl _), ⟨hb.os, hb.tape, hb.output, hb.size, hb.block⟩⟩
set_option maxRecDepth 100000 in
set_option maxHeartbeats 2000000 in
theorem d_set (b : Nat) (s : XS) (w : World) (hS : XAt w b s) (hO : XOk s) (hpc : s.pc ≤ 2000) (fs : List Int) (vf : Value) (a : Nat) (c d : Int) (ha : a < 100) :
  Calls Try.prog 94 #[.pointer (some ⟨b, 0, none⟩), icV ⟨1, a, c, d⟩, vf] w (DoPost w b (stepX ⟨1, a, c, d⟩ fs s)) := by
 have HE : Hid (stepX ⟨1, a, c, d⟩ fs s = ⟨s.regs.set a ⟨c, 0⟩, s.notes, s.pc + 1⟩) := by show _ = _; unfold stepX; simp [give_nat]
 rw [HE.out]
 have HB : Hid _ := boxAt2 hS ⟨1, a, c, d⟩
 have ia0 : (0 : Int) ≤ (a : Int) := by omega
 have ia1 : (a : Int) < 100 := by omega
 have HN : Hid (GivesV 113 #[.int .i64 c] ⟨c, 0⟩) := number_any c
 have hp := hS.pc
 have fz := hS.fz
 have hlt := hS.lt
 have HO : Hid (XOk s) := hO
 have hln : s.regs.length = 100 := hO.len
 clear hO HE hS
 go_enter Try.func94, Try.ntmps94
 go_upto_region 2 with fail
 generalize ((w.setCell ⟨b, 201, none⟩ (.int .i64 ((s.pc : Int) + 1))).alloc (.cells (icCells ⟨1, a, c, d⟩) 70)) = W at *
 obtain ⟨k0, k1, k2, k3, hst, hlow, hsz⟩ := HB.out
 simp only at k0 k1 k2 k3
 have hp2 := hst.pc
 have fz2 := hst.fz
 have HST : Hid (XAt W b ⟨s.regs, s.notes, s.pc + 1⟩) := hst
 have HLOW : Hid (Below b w W) := hlow
 have hbW : w.heap.size < W.heap.size := by omega
 have hbb : b < W.heap.size := by omega
 clear hlow HB hp fz
 clear hst
 have HK : Hid (∀ w' : World, w'.heap[w.heap.size]? = W.heap[w.heap.size]? → w'.cell? ⟨w.heap.size, 0, none⟩ = some (.int .i64 1) ∧ w'.cell? ⟨w.heap.size, 1, none⟩ = some (.int .i64 a) ∧ w'.cell? ⟨w.heap.size, 2, none⟩ = some (.int .i64 c) ∧ w'.cell? ⟨w.heap.size, 3, none⟩ = some (.int .i64 d)) := fun V e => ⟨(World.cell?_of_block (a := ⟨w.heap.size, 0, none⟩) e).trans k0, (World.cell?_of_block (a := ⟨w.heap.size, 1, none⟩) e).trans k1, (World.cell?_of_block (a := ⟨w.heap.size, 2, none⟩) e).trans k2, (World.cell?_of_block (a := ⟨w.heap.size, 3, none⟩) e).trans k3⟩
 have hne2 : w.heap.size ≠ b := by omega
 clear k0 k1 k2 k3
 have hpick := HK.out W rfl
 go_split_ands
 go_upto_region 5 with fail
 go_region_held3 (fun w' => w'.cell? ⟨w.heap.size, 0, none⟩ = some (.int .i64 1) ∧ w'.cell? ⟨w.heap.size, 1, none⟩ = some (.int .i64 a) ∧ w'.cell? ⟨w.heap.size, 2, none⟩ = some (.int .i64 c) ∧ w'.cell? ⟨w.heap.size, 3, none⟩ = some (.int .i64 d)) (first | exact HK.out _ rfl | exact HK.out _ (hb5.block _ hbW) | exact HK.out _ ((Below.heap_setCell _ _ _ _ hne2).trans ((Below.heap_setCell _ _ _ _ hne2).trans (hb5.block _ hbW)))) ((go_at_call 113; refine (HN.out _).mono ?_; rintro e5 w5 ⟨rfl, hb5⟩; have h5 := x_after HST.out hb5; have h5c := h5.1.cell a ha; have h5f := h5.1.fz; obtain ⟨q0, q1⟩ := h5c))
 all_goals go_wp2_with fail
 all_goals go_end0
 all_goals exact ⟨rfl, h5.1.set hln a ha ⟨c, 0⟩, ((HLOW.out.trans (h5.2.mono (by omega))).setCell (by simp) _).setCell (by simp) _⟩
set_option maxRecDepth 100000 in
set_option maxHeartbeats 4000000 in
theorem d_in (b : Nat) (s : XS) (w : World) (hS : XAt w b s) (hO : XOk s) (hpc : s.pc ≤ 2000) (fs : List Int) (af : Option Addr) (gf of capf : Nat) (hF : NumCells w af gf of fs) (hgb : ∀ i, i < fs.length → gf < b) (hfl : fs.length ≤ 9223372036854775807) (a c : Nat) (d : Int) (ha : a < 100) (hc : c < fs.length) :
  Calls Try.prog 94 #[.pointer (some ⟨b, 0, none⟩), icV ⟨11, a, c, d⟩, .slice af fs.length capf] w (DoPost w b (stepX ⟨11, a, c, d⟩ fs s)) := by
 obtain ⟨rfl, hgw, f0⟩ := hF c hc
 have hgf := hgb c hc
 have HE : Hid (stepX ⟨11, a, c, d⟩ fs s = ⟨s.regs.set a ⟨fs[c], 0⟩, s.notes, s.pc + 1⟩) := by
  show _ = _
  unfold stepX
  simp [give_nat, List.getElem?_eq_getElem hc]
 rw [HE.out]
 have HB : Hid _ := boxAt2 hS ⟨11, a, c, d⟩
 have ia0 : (0 : Int) ≤ (a : Int) := by omega
 have ia1 : (a : Int) < 100 := by omega
 have ic0 : (0 : Int) ≤ (c : Int) := by omega
 have ic1 : (c : Int) < (fs.length : Int) := by omega
 generalize fs[c] = x at *
 generalize fs.length = n at *
 have HN : Hid (GivesV 113 #[.int .i64 x] ⟨x, 0⟩) := number_any x
 clear hF hgb
 have hp := hS.pc
 have fz := hS.fz
 have hlt := hS.lt
 have HO : Hid (XOk s) := hO
 have hln : s.regs.length = 100 := hO.len
 clear hO HE hS
 go_enter Try.func94, Try.ntmps94
 go_upto_region 2 with fail
 generalize ((w.setCell ⟨b, 201, none⟩ (.int .i64 ((s.pc : Int) + 1))).alloc (.cells (icCells ⟨11, a, c, d⟩) 70)) = W at *
 obtain ⟨k0, k1, k2, k3, hst, hlow, hsz⟩ := HB.out
 simp only at k0 k1 k2 k3
 have hp2 := hst.pc
 have fz2 := hst.fz
 have HST : Hid (XAt W b ⟨s.regs, s.notes, s.pc + 1⟩) := hst
 have HLOW : Hid (Below b w W) := hlow
 have hbW : w.heap.size < W.heap.size := by omega
 have hbb : b < W.heap.size := by omega
 clear hlow HB hp fz
 clear hst
 have f1 : W.cell? ⟨gf, of + c, none⟩ = some (.int .i64 x) := (HLOW.out.cell (p := ⟨gf, of + c, none⟩) hgf).trans f0
 have HK : Hid (∀ w' : World, w'.heap[w.heap.size]? = W.heap[w.heap.size]? → w'.heap[gf]? = W.heap[gf]? → w'.cell? ⟨w.heap.size, 0, none⟩ = some (.int .i64 11) ∧ w'.cell? ⟨w.heap.size, 1, none⟩ = some (.int .i64 a) ∧ w'.cell? ⟨w.heap.size, 2, none⟩ = some (.int .i64 c) ∧ w'.cell? ⟨w.heap.size, 3, none⟩ = some (.int .i64 d) ∧ w'.cell? ⟨gf, of + c, none⟩ = some (.int .i64 x)) := fun V e e' => ⟨(World.cell?_of_block (a := ⟨w.heap.size, 0, none⟩) e).trans k0, (World.cell?_of_block (a := ⟨w.heap.size, 1, none⟩) e).trans k1, (World.cell?_of_block (a := ⟨w.heap.size, 2, none⟩) e).trans k2, (World.cell?_of_block (a := ⟨w.heap.size, 3, none⟩) e).trans k3, (World.cell?_of_block (a := ⟨gf, of + c, none⟩) e').trans f1⟩
 have hne2 : w.heap.size ≠ b := by omega
 have hne3 : gf ≠ b := by omega
 have hgW : gf < W.heap.size := by omega
 clear k0 k1 k2 k3 f0 f1
 have hpick := HK.out W rfl rfl
 go_split_ands
 go_upto_region 11 with fail
 go_region_held3 (fun w' => w'.cell? ⟨w.heap.size, 0, none⟩ = some (.int .i64 11) ∧ w'.cell? ⟨w.heap.size, 1, none⟩ = some (.int .i64 a) ∧ w'.cell? ⟨w.heap.size, 2, none⟩ = some (.int .i64 c) ∧ w'.cell? ⟨w.heap.size, 3, none⟩ = some (.int .i64 d) ∧ w'.cell? ⟨gf, of + c, none⟩ = some (.int .i64 x)) (first | exact HK.out _ rfl rfl | exact HK.out _ (hb5.block _ hbW) (hb5.block _ hgW) | exact HK.out _ ((Below.heap_setCell _ _ _ _ hne2).trans ((Below.heap_setCell _ _ _ _ hne2).trans (hb5.block _ hbW))) ((Below.heap_setCell _ _ _ _ hne3).trans ((Below.heap_setCell _ _ _ _ hne3).trans (hb5.block _ hgW)))) ((go_at_call 113; refine (HN.out _).mono ?_; rintro e5 w5 ⟨rfl, hb5⟩; have h5 := x_after HST.out hb5; have h5c := h5.1.cell a ha; have h5f := h5.1.fz; obtain ⟨q0, q1⟩ := h5c))
 all_goals go_wp2_with fail
 all_goals go_end0
 all_goals exact ⟨rfl, h5.1.set hln a ha ⟨x, 0⟩, ((HLOW.out.trans (h5.2.mono (by omega))).setCell (by simp) _).setCell (by simp) _⟩
end Go.Proofs.Ytdgmoiflahoihaa
