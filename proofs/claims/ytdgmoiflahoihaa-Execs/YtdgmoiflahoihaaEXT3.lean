import Derived.Test.YtdgmoiflahoihaaEXT2

namespace Go.Proofs.Ytdgmoiflahoihaa
open Go.RowKit
set_option linter.unusedSimpArgs false
set_option linter.unusedVariables false
set_option maxRecDepth 100000 in
set_option maxHeartbeats 2000000 in
theorem t_in (g : Nat) (s : XS) (w : World) (hR : RegsAt w g s.regs) (hO : XOk s) (hpc : s.pc ≤ 2000) (fs : List Int) (af : Option Addr) (gf of capf : Nat) (a b : Nat) (c : Int) (ha : a < 100) (hb : b < fs.length) (hl : fs.length ≤ 9223372036854775807) (hF : NumCells w af gf of fs) :
  Calls Try.prog 65 #[icV ⟨11, a, b, c⟩, .int .i64 s.pc, .slice (some ⟨g, 0, none⟩) 100 100, .slice af fs.length capf] w (TurnPost w g (stepX ⟨11, a, b, c⟩ fs s)) := by
 obtain ⟨rfl, hgf, d0⟩ := hF b hb
 have HE : Hid (stepX ⟨11, a, b, c⟩ fs s = ⟨s.regs.set a ⟨fs[b], 0⟩, s.notes, s.pc + 1⟩) := by
  show _ = _
  unfold stepX
  simp [give_nat, List.getElem?_eq_getElem hb]
 rw [HE.out]
 obtain ⟨c0, c1⟩ := hR.cell a (by rw [hO.len]; exact ha)
 have fz := hR.fz
 have HR : Hid (RegsAt w g s.regs) := hR
 have hal : a < s.regs.length := by rw [hO.len]; exact ha
 have hlt := hR.lt
 generalize fs[b] = x at *
 generalize fs.length = n at *
 clear hR hO HE hF
 go_enter Try.func65, Try.ntmps65
 go_upto_region 18 with fail
 go_region
 all_goals go_wp2_with fail
 all_goals go_ret
 all_goals exact ⟨rfl, ((turn_set HR.out a hal ⟨x, 0⟩).1).block rfl, (turn_set HR.out a hal ⟨x, 0⟩).2.drewN 1⟩
theorem turn_call {w w5 : World} {g : Nat} {l : List Vl} {ob : Obj} (h : RegsAt w g l) (hb : Below (w.alloc ob).drew.heap.size (w.alloc ob).drew w5) (i : Nat) (hi : i < l.length) (x : Vl) :
  RegsAt ((w5.setCell ⟨g, i * 2, none⟩ (.int .i64 x.num)).setCell ⟨g, i * 2 + 1, none⟩ (.int .i64 x.fault)) g (l.set i x) ∧ But g w ((w5.setCell ⟨g, i * 2, none⟩ (.int .i64 x.num)).setCell ⟨g, i * 2 + 1, none⟩ (.int .i64 x.fault)) := by
 have hlt := h.lt
 have hb2 : Below w.heap.size w w5 := ((Below.refl _ _).alloc (Nat.le_refl _) ob).drew.trans (hb.mono (by simp [World.drew]))
 refine ⟨(h.block (hb2.block g hlt)).set i hi x, ?_⟩
 have h2 : But g w w5 := ⟨hb2.os, hb2.tape, hb2.output, hb2.size, fun k hk _ => hb2.block k hk⟩
 exact (h2.set _ _).set _ _
theorem turn_after {w w5 : World} {g : Nat} {l : List Vl} {ob : Obj} (h : RegsAt w g l) (hb : Below (w.alloc ob).drew.heap.size (w.alloc ob).drew w5) (i : Nat) (hi : i < l.length) :
  w5.cell? ⟨g, i * 2, none⟩ = some (.int .i64 (l.getD i vl0).num) ∧ w5.cell? ⟨g, i * 2 + 1, none⟩ = some (.int .i64 (l.getD i vl0).fault) ∧ ∀ o, w5.frozen? ⟨g, o, none⟩ = false := by
 have hlt := h.lt
 have hb2 : Below w.heap.size w w5 := ((Below.refl _ _).alloc (Nat.le_refl _) ob).drew.trans (hb.mono (by simp [World.drew]))
 have k := h.block (hb2.block g hlt)
 exact ⟨(k.cell i hi).1, (k.cell i hi).2, k.fz⟩
theorem turn_box {w w5 : World} {t : TypeId} {x : Ic} (hb : Below (w.alloc (.cells (icCells x) t)).drew.heap.size (w.alloc (.cells (icCells x) t)).drew w5) :
  w5.cell? ⟨w.heap.size, 0, none⟩ = some (.int .i64 x.op) ∧ w5.cell? ⟨w.heap.size, 1, none⟩ = some (.int .i64 x.a) ∧ w5.cell? ⟨w.heap.size, 2, none⟩ = some (.int .i64 x.b) ∧ w5.cell? ⟨w.heap.size, 3, none⟩ = some (.int .i64 x.c) := by
 have hlt : w.heap.size < (w.alloc (.cells (icCells x) t)).drew.heap.size := by simp [World.drew]
 refine ⟨?_, ?_, ?_, ?_⟩
 ·rw [hb.cell (p := ⟨w.heap.size, 0, none⟩) hlt]; simp [go_sem]
 ·rw [hb.cell (p := ⟨w.heap.size, 1, none⟩) hlt]; simp [go_sem]
 ·rw [hb.cell (p := ⟨w.heap.size, 2, none⟩) hlt]; simp [go_sem]
 ·rw [hb.cell (p := ⟨w.heap.size, 3, none⟩) hlt]; simp [go_sem]
set_option maxRecDepth 100000 in
set_option maxHeartbeats 4000000 in
theorem t_neg (g : Nat) (s : XS) (w : World) (hR : RegsAt w g s.regs) (hO : XOk s) (hpc : s.pc ≤ 2000) (fs : List Int) (af : Option Addr) (gf of capf : Nat) (a b : Nat) (c : Int) (ha : a < 100) (hb : b < 100) :
  Calls Try.prog 65 #[icV ⟨3, a, b, c⟩, .int .i64 s.pc, .slice (some ⟨g, 0, none⟩) 100 100, .slice af fs.length capf] w (TurnPost w g (stepX ⟨3, a, b, c⟩ fs s)) := by
 have HE : Hid (stepX ⟨3, a, b, c⟩ fs s = ⟨s.regs.set a (negV (s.regs.getD b vl0)), s.notes, s.pc + 1⟩) := by show _ = _; unfold stepX; simp [give_nat, reg_nat]
 rw [HE.out]
 obtain ⟨d0, d1⟩ := hR.cell b (by rw [hO.len]; exact hb)
 have HR : Hid (RegsAt w g s.regs) := hR
 have hal : a < s.regs.length := by rw [hO.len]; exact ha
 have hlt := hR.lt
 have hx : VlOk (s.regs.getD b vl0) := hO.reg (b : Nat)
 generalize s.regs.getD b vl0 = x at *
 have HN : Hid (GivesV 95 #[.int .u8 45, vlV ⟨0, 0⟩, vlV x] (negV x)) := by
  have k := refOp_any 45 ⟨0, 0⟩ x ⟨by simp, by simp, by simp⟩ hx
  have e : opC 45 ⟨0, 0⟩ x = negV x := by unfold opC negV; simp
  rw [e] at k
  exact k
 generalize hy : negV x = y at *
 obtain ⟨xn, xf⟩ := x
 simp only at d0 d1
 clear hR hO HE hx hy
 go_enter Try.func65, Try.ntmps65
 go_upto_region 16 with fail
 go_region_with (go_at_call 95; refine (HN.out _).mono ?_; rintro e5 w5 ⟨rfl, hb5⟩; obtain ⟨c0, c1, fz⟩ := turn_after HR.out hb5 a hal; obtain ⟨k0, k1, k2, k3⟩ := turn_box (x := ⟨3, a, b, c⟩) hb5)
 all_goals go_wp2_with fail
 all_goals go_ret
 all_goals exact ⟨rfl, turn_call HR.out hb5 a hal y⟩
end Go.Proofs.Ytdgmoiflahoihaa
