import Derived.Test.YtdgmoiflahoihaaGreatXTw
import Derived.Deep.RegionHeld3

namespace Go.Proofs.YtdgmoiflahoihaaGreat
open Go.RowKit
set_option linter.unusedSimpArgs false
set_option linter.unusedVariables false
theorem turn_set {w : World} {g : Nat} {l : List Vl} {ob : Obj} (h : RegsAt w g l) (i : Nat) (hi : i < l.length) (x : Vl) :
  RegsAt (((w.setCell ⟨g, i * 2, none⟩ (.int .i64 x.num)).setCell ⟨g, i * 2 + 1, none⟩ (.int .i64 x.fault)).alloc ob) g (l.set i x) ∧ But g w (((w.setCell ⟨g, i * 2, none⟩ (.int .i64 x.num)).setCell ⟨g, i * 2 + 1, none⟩ (.int .i64 x.fault)).alloc ob) := by
 have hlt := h.lt
 refine ⟨(h.set i hi x).block (Below.heap_alloc _ _ _ (by simpa using hlt)), ?_⟩
 exact (((But.refl g w).set _ _).set _ _).alloc _
set_option maxRecDepth 100000 in
set_option maxHeartbeats 1000000 in
theorem t_set (g : Nat) (s : XS) (w : World) (hR : RegsAt w g s.regs) (hO : XOk s) (hpc : s.pc ≤ 2000) (fs : List Int) (af : Option Addr) (gf of capf : Nat) (a : Nat) (b c : Int) (ha : a < 100) :
  Calls Tryz.prog 30 #[icV ⟨1, a, b, c⟩, .int .i64 s.pc, .slice (some ⟨g, 0, none⟩) 100 100, .slice af fs.length capf] w (TurnPost w g (stepX ⟨1, a, b, c⟩ fs s)) := by
 have HE : Hid (stepX ⟨1, a, b, c⟩ fs s = ⟨s.regs.set a ⟨b, 0⟩, s.notes, s.pc + 1⟩) := by show _ = _; unfold stepX; simp [give_nat]
 rw [HE.out]
 obtain ⟨c0, c1⟩ := hR.cell a (by rw [hO.len]; exact ha)
 have fz := hR.fz
 have HR : Hid (RegsAt w g s.regs) := hR
 have hal : a < s.regs.length := by rw [hO.len]; exact ha
 have hlt := hR.lt
 clear hR hO
 go_enter Tryz.func30, Tryz.ntmps30
 go_wp2_with fail
 go_ret
 exact ⟨rfl, turn_set HR.out a hal ⟨b, 0⟩⟩
set_option maxRecDepth 100000 in
set_option maxHeartbeats 1000000 in
theorem t_note (g : Nat) (s : XS) (w : World) (hR : RegsAt w g s.regs) (hO : XOk s) (hpc : s.pc ≤ 2000) (fs : List Int) (af : Option Addr) (gf of capf : Nat) (o a b c : Int) (ho : o = 14 ∨ o = 15) :
  Calls Tryz.prog 30 #[icV ⟨o, a, b, c⟩, .int .i64 s.pc, .slice (some ⟨g, 0, none⟩) 100 100, .slice af fs.length capf] w (TurnPost w g (stepX ⟨o, a, b, c⟩ fs s)) := by
 have HE : Hid (∃ N, stepX ⟨o, a, b, c⟩ fs s = ⟨s.regs, N, s.pc + 1⟩) := by
  rcases ho with rfl | rfl
  ·exact ⟨_, by unfold stepX; simp; rfl⟩
  ·exact ⟨_, by unfold stepX; simp; rfl⟩
 obtain ⟨N, hN⟩ := HE.out
 rw [hN]
 have HR : Hid (RegsAt w g s.regs) := hR
 have hlt := hR.lt
 clear hR hO hN HE
 rcases ho with rfl | rfl
 ·go_enter Tryz.func30, Tryz.ntmps30
  go_wp2_with fail
  go_ret
  exact ⟨rfl, HR.out.block (Below.heap_alloc _ _ _ hlt), but_alloc _⟩
 ·go_enter Tryz.func30, Tryz.ntmps30
  go_wp2_with fail
  go_ret
  exact ⟨rfl, HR.out.block (Below.heap_alloc _ _ _ hlt), but_alloc _⟩
set_option maxRecDepth 100000 in
set_option maxHeartbeats 2000000 in
theorem t_when (g : Nat) (s : XS) (w : World) (hR : RegsAt w g s.regs) (hO : XOk s) (hpc : s.pc ≤ 2000) (fs : List Int) (af : Option Addr) (gf of capf : Nat) (a b c : Nat) (ha : a < 100) :
  Calls Tryz.prog 30 #[icV ⟨13, a, b, c⟩, .int .i64 s.pc, .slice (some ⟨g, 0, none⟩) 100 100, .slice af fs.length capf] w (TurnPost w g (stepX ⟨13, a, b, c⟩ fs s)) := by
 have HE : Hid (stepX ⟨13, a, b, c⟩ fs s = ⟨s.regs, s.notes, if (s.regs.getD a vl0).fault ≠ 0 then c else if (s.regs.getD a vl0).num = 0 then b else s.pc + 1⟩) := by show _ = _; unfold stepX; simp [reg_nat]
 rw [HE.out]
 obtain ⟨c0, c1⟩ := hR.cell a (by rw [hO.len]; exact ha)
 have HR : Hid (RegsAt w g s.regs) := hR
 have hlt := hR.lt
 generalize s.regs.getD a vl0 = x at *
 obtain ⟨xn, xf⟩ := x
 simp only at c0 c1 ⊢
 clear hR hO HE
 by_cases f0 : xf = 0
 ·subst f0
  by_cases n0 : xn = 0
  ·subst n0
   go_enter Tryz.func30, Tryz.ntmps30
   go_wp2_with fail
   go_ret
   exact ⟨by simp, HR.out.block ((Below.heap_alloc _ _ _ (by simp; omega)).trans (Below.heap_alloc _ _ _ hlt)), (but_alloc _).alloc _⟩
  ·have t : (xn == 0) = false := by simpa using n0
   go_enter Tryz.func30, Tryz.ntmps30
   go_wp2_with fail
   go_ret
   exact ⟨by simp [n0], HR.out.block ((Below.heap_alloc _ _ _ (by simp; omega)).trans (Below.heap_alloc _ _ _ hlt)), (but_alloc _).alloc _⟩
 ·have t : (xf != 0) = true := by simpa using f0
  go_enter Tryz.func30, Tryz.ntmps30
  go_wp2_with fail
  go_ret
  exact ⟨by simp [f0], HR.out.block ((Below.heap_alloc _ _ _ (by simp; omega)).trans (Below.heap_alloc _ _ _ hlt)), (but_alloc _).alloc _⟩
set_option maxRecDepth 100000 in
set_option maxHeartbeats 2000000 in
theorem t_copy (g : Nat) (s : XS) (w : World) (hR : RegsAt w g s.regs) (hO : XOk s) (hpc : s.pc ≤ 2000) (fs : List Int) (af : Option Addr) (gf of capf : Nat) (a b : Nat) (c : Int) (ha : a < 100) (hb : b < 100) :
  Calls Tryz.prog 30 #[icV ⟨2, a, b, c⟩, .int .i64 s.pc, .slice (some ⟨g, 0, none⟩) 100 100, .slice af fs.length capf] w (TurnPost w g (stepX ⟨2, a, b, c⟩ fs s)) := by
 have HE : Hid (stepX ⟨2, a, b, c⟩ fs s = ⟨s.regs.set a (s.regs.getD b vl0), s.notes, s.pc + 1⟩) := by show _ = _; unfold stepX; simp [give_nat, reg_nat]
 rw [HE.out]
 obtain ⟨c0, c1⟩ := hR.cell a (by rw [hO.len]; exact ha)
 obtain ⟨d0, d1⟩ := hR.cell b (by rw [hO.len]; exact hb)
 have fz := hR.fz
 have HR : Hid (RegsAt w g s.regs) := hR
 have hal : a < s.regs.length := by rw [hO.len]; exact ha
 have hlt := hR.lt
 generalize s.regs.getD b vl0 = x at *
 clear hR hO HE
 go_enter Tryz.func30, Tryz.ntmps30
 go_upto_region 14 with fail
 go_region
 all_goals go_wp2_with fail
 all_goals go_ret
 all_goals exact ⟨rfl, ((turn_set HR.out a hal x).1).block rfl, (turn_set HR.out a hal x).2.drewN 1⟩
end Go.Proofs.YtdgmoiflahoihaaGreat
namespace Go.Proofs.YtdgmoiflahoihaaGreat
open Go.RowKit
set_option linter.unusedSimpArgs false
set_option linter.unusedVariables false
set_option maxRecDepth 100000 in
set_option maxHeartbeats 2000000 in
theorem t_in (g : Nat) (s : XS) (w : World) (hR : RegsAt w g s.regs) (hO : XOk s) (hpc : s.pc ≤ 2000) (fs : List Int) (af : Option Addr) (gf of capf : Nat) (a b : Nat) (c : Int) (ha : a < 100) (hb : b < fs.length) (hl : fs.length ≤ 9223372036854775807) (hF : NumCells w af gf of fs) :
  Calls Tryz.prog 30 #[icV ⟨11, a, b, c⟩, .int .i64 s.pc, .slice (some ⟨g, 0, none⟩) 100 100, .slice af fs.length capf] w (TurnPost w g (stepX ⟨11, a, b, c⟩ fs s)) := by
 obtain ⟨rfl, hgf, d0⟩ := hF b hb
 have HE : Hid (stepX ⟨11, a, b, c⟩ fs s = ⟨s.regs.set a ⟨fs[b], 0⟩, s.notes, s.pc + 1⟩) := by
  show _ = _
  unfold stepX
  simp [give_nat, List.getElem?_eq_getElem hb]
 rw [HE.out]
 obtain ⟨c0, c1⟩ := hR.cell a (by rw [hO.len]; exact ha)
 have fz := hR.fz
 have HR : Hid (RegsAt w g s.regs) := hR
 have hal : a < s.regs.length := by rw [hO.len]; exact ha
 have hlt := hR.lt
 generalize fs[b] = x at *
 generalize fs.length = n at *
 clear hR hO HE hF
 go_enter Tryz.func30, Tryz.ntmps30
 go_upto_region 18 with fail
 go_region
 all_goals go_wp2_with fail
 all_goals go_ret
 all_goals exact ⟨rfl, ((turn_set HR.out a hal ⟨x, 0⟩).1).block rfl, (turn_set HR.out a hal ⟨x, 0⟩).2.drewN 1⟩
theorem turn_call {w w5 : World} {g : Nat} {l : List Vl} {ob : Obj} (h : RegsAt w g l) (hb : Below (w.alloc ob).drew.heap.size (w.alloc ob).drew w5) (i : Nat) (hi : i < l.length) (x : Vl) :
  RegsAt ((w5.setCell ⟨g, i * 2, none⟩ (.int .i64 x.num)).setCell ⟨g, i * 2 + 1, none⟩ (.int .i64 x.fault)) g (l.set i x) ∧ But g w ((w5.setCell ⟨g, i * 2, none⟩ (.int .i64 x.num)).setCell ⟨g, i * 2 + 1, none⟩ (.int .i64 x.fault)) := by
 have hlt := h.lt
 have hb2 : Below w.heap.size w w5 := ((Below.refl _ _).alloc (Nat.le_refl _) ob).drew.trans (hb.mono (by simp [World.drew]))
 refine ⟨(h.block (hb2.block g hlt)).set i hi x, ?_⟩
 have h2 : But g w w5 := ⟨hb2.os, hb2.tape, hb2.output, hb2.size, fun k hk _ => hb2.block k hk⟩
 exact (h2.set _ _).set _ _
theorem turn_after {w w5 : World} {g : Nat} {l : List Vl} {ob : Obj} (h : RegsAt w g l) (hb : Below (w.alloc ob).drew.heap.size (w.alloc ob).drew w5) (i : Nat) (hi : i < l.length) :
  w5.cell? ⟨g, i * 2, none⟩ = some (.int .i64 (l.getD i vl0).num) ∧ w5.cell? ⟨g, i * 2 + 1, none⟩ = some (.int .i64 (l.getD i vl0).fault) ∧ ∀ o, w5.frozen? ⟨g, o, none⟩ = false := by
 have hlt := h.lt
 have hb2 : Below w.heap.size w w5 := ((Below.refl _ _).alloc (Nat.le_refl _) ob).drew.trans (hb.mono (by simp [World.drew]))
 have k := h.block (hb2.block g hlt)
 exact ⟨(k.cell i hi).1, (k.cell i hi).2, k.fz⟩
theorem turn_box {w w5 : World} {t : TypeId} {x : Ic} (hb : Below (w.alloc (.cells (icCells x) t)).drew.heap.size (w.alloc (.cells (icCells x) t)).drew w5) :
  w5.cell? ⟨w.heap.size, 0, none⟩ = some (.int .i64 x.op) ∧ w5.cell? ⟨w.heap.size, 1, none⟩ = some (.int .i64 x.a) ∧ w5.cell? ⟨w.heap.size, 2, none⟩ = some (.int .i64 x.b) ∧ w5.cell? ⟨w.heap.size, 3, none⟩ = some (.int .i64 x.c) := by
 have hlt : w.heap.size < (w.alloc (.cells (icCells x) t)).drew.heap.size := by simp [World.drew]
 refine ⟨?_, ?_, ?_, ?_⟩
 ·rw [hb.cell (p := ⟨w.heap.size, 0, none⟩) hlt]; simp [go_sem]
 ·rw [hb.cell (p := ⟨w.heap.size, 1, none⟩) hlt]; simp [go_sem]
 ·rw [hb.cell (p := ⟨w.heap.size, 2, none⟩) hlt]; simp [go_sem]
 ·rw [hb.cell (p := ⟨w.heap.size, 3, none⟩) hlt]; simp [go_sem]
set_option maxRecDepth 100000 in
set_option maxHeartbeats 4000000 in
theorem t_neg (g : Nat) (s : XS) (w : World) (hR : RegsAt w g s.regs) (hO : XOk s) (hpc : s.pc ≤ 2000) (fs : List Int) (af : Option Addr) (gf of capf : Nat) (a b : Nat) (c : Int) (ha : a < 100) (hb : b < 100) :
  Calls Tryz.prog 30 #[icV ⟨3, a, b, c⟩, .int .i64 s.pc, .slice (some ⟨g, 0, none⟩) 100 100, .slice af fs.length capf] w (TurnPost w g (stepX ⟨3, a, b, c⟩ fs s)) := by
 have HE : Hid (stepX ⟨3, a, b, c⟩ fs s = ⟨s.regs.set a (negV (s.regs.getD b vl0)), s.notes, s.pc + 1⟩) := by show _ = _; unfold stepX; simp [give_nat, reg_nat]
 rw [HE.out]
 obtain ⟨d0, d1⟩ := hR.cell b (by rw [hO.len]; exact hb)
 have HR : Hid (RegsAt w g s.regs) := hR
 have hal : a < s.regs.length := by rw [hO.len]; exact ha
 have hlt := hR.lt
 have hx : VlOk (s.regs.getD b vl0) := hO.reg (b : Nat)
 generalize s.regs.getD b vl0 = x at *
 have HN : Hid (GivesV 50 #[.int .u8 45, vlV ⟨0, 0⟩, vlV x] (negV x)) := by
  have k := refOp_any 45 ⟨0, 0⟩ x ⟨by simp, by simp, by simp⟩ hx
  have e : opC 45 ⟨0, 0⟩ x = negV x := by unfold opC negV; simp
  rw [e] at k
  exact k
 generalize hy : negV x = y at *
 obtain ⟨xn, xf⟩ := x
 simp only at d0 d1
 clear hR hO HE hx hy
 go_enter Tryz.func30, Tryz.ntmps30
 go_upto_region 16 with fail
 go_region_with (go_at_call 50; refine (HN.out _).mono ?_; rintro e5 w5 ⟨rfl, hb5⟩; obtain ⟨c0, c1, fz⟩ := turn_after HR.out hb5 a hal; obtain ⟨k0, k1, k2, k3⟩ := turn_box (x := ⟨3, a, b, c⟩) hb5)
 all_goals go_wp2_with fail
 all_goals go_ret
 all_goals exact ⟨rfl, turn_call HR.out hb5 a hal y⟩
end Go.Proofs.YtdgmoiflahoihaaGreat
namespace Go.Proofs.YtdgmoiflahoihaaGreat
open Go.RowKit
set_option linter.unusedSimpArgs false
set_option linter.unusedVariables false
@[reducible] def signs7 : ByteArray := ⟨#[43, 45, 42, 47, 37, 60, 61]⟩
theorem sign_op (k : Nat) (hk : k < 7) (x y : Vl) : opC (signs7[k]'hk) x y = opV ((k : Int) + 4) x y := by
 match k, hk with
 | 0, _ => rfl
 | 1, _ => rfl
 | 2, _ => rfl
 | 3, _ => rfl
 | 4, _ => rfl
 | 5, _ => rfl
 | 6, _ => rfl
theorem turn_after2 {W w5 : World} {g : Nat} {l : List Vl} (h : RegsAt W g l) (hb : Below W.drew.heap.size W.drew w5) (i : Nat) (hi : i < l.length) :
  w5.cell? ⟨g, i * 2, none⟩ = some (.int .i64 (l.getD i vl0).num) ∧ w5.cell? ⟨g, i * 2 + 1, none⟩ = some (.int .i64 (l.getD i vl0).fault) ∧ ∀ o, w5.frozen? ⟨g, o, none⟩ = false := by
 have k := h.block (w' := w5) (hb.block g h.lt)
 exact ⟨(k.cell i hi).1, (k.cell i hi).2, k.fz⟩
theorem turn_call2 {w W w5 : World} {g : Nat} {l : List Vl} (h : RegsAt w g l) (hB : Below w.heap.size w W) (hb : Below W.drew.heap.size W.drew w5) (i : Nat) (hi : i < l.length) (x : Vl) :
  RegsAt ((w5.setCell ⟨g, i * 2, none⟩ (.int .i64 x.num)).setCell ⟨g, i * 2 + 1, none⟩ (.int .i64 x.fault)) g (l.set i x) ∧ But g w ((w5.setCell ⟨g, i * 2, none⟩ (.int .i64 x.num)).setCell ⟨g, i * 2 + 1, none⟩ (.int .i64 x.fault)) := by
 have hlt := h.lt
 have hb2 : Below w.heap.size w w5 := hB.drew.trans (hb.mono hB.size)
 refine ⟨(h.block (hb2.block g hlt)).set i hi x, ?_⟩
 have h2 : But g w w5 := ⟨hb2.os, hb2.tape, hb2.output, hb2.size, fun k hk _ => hb2.block k hk⟩
 exact (h2.set _ _).set _ _
set_option maxRecDepth 100000 in
set_option maxHeartbeats 8000000 in
theorem t_op (g : Nat) (s : XS) (w : World) (hR : RegsAt w g s.regs) (hO : XOk s) (hpc : s.pc ≤ 2000) (fs : List Int) (af : Option Addr) (gf of capf : Nat) (k a b c : Nat) (hk : k < 7) (ha : a < 100) (hb : b < 100) (hc : c < 100) :
  Calls Tryz.prog 30 #[icV ⟨(k : Int) + 4, a, b, c⟩, .int .i64 s.pc, .slice (some ⟨g, 0, none⟩) 100 100, .slice af fs.length capf] w (TurnPost w g (stepX ⟨(k : Int) + 4, a, b, c⟩ fs s)) := by
 have HE : Hid (stepX ⟨(k : Int) + 4, a, b, c⟩ fs s = ⟨s.regs.set a (opV ((k : Int) + 4) (s.regs.getD b vl0) (s.regs.getD c vl0)), s.notes, s.pc + 1⟩) := by
  show _ = _
  unfold stepX
  simp only
  rw [if_neg (by omega), if_neg (by omega), if_neg (by omega), if_neg (by omega), if_neg (by omega), if_neg (by omega), if_neg (by omega), if_neg (by omega), give_nat, reg_nat, reg_nat]
 rw [HE.out]
 obtain ⟨d0, d1⟩ := hR.cell b (by rw [hO.len]; exact hb)
 obtain ⟨f0, f1⟩ := hR.cell c (by rw [hO.len]; exact hc)
 have HR : Hid (RegsAt w g s.regs) := hR
 have hal : a < s.regs.length := by rw [hO.len]; exact ha
 have hlt := hR.lt
 have hx : VlOk (s.regs.getD b vl0) := hO.reg (b : Nat)
 have hy : VlOk (s.regs.getD c vl0) := hO.reg (c : Nat)
 generalize s.regs.getD b vl0 = x at *
 generalize s.regs.getD c vl0 = y at *
 have HN : Hid (GivesV 50 #[.int .u8 (signs7[k]'hk).toNat, vlV x, vlV y] (opV ((k : Int) + 4) x y)) := by
  have q := refOp_any (signs7[k]'hk) x y hx hy
  rw [sign_op k hk] at q
  exact q
 generalize hz : opV ((k : Int) + 4) x y = z at *
 obtain ⟨xn, xf⟩ := x
 obtain ⟨yn, yf⟩ := y
 simp only at d0 d1 f0 f1
 have hltW : w.heap.size < (w.alloc (.cells (icCells ⟨(k : Int) + 4, a, b, c⟩) 64)).heap.size := by simp
 have k0 : (w.alloc (.cells (icCells ⟨(k : Int) + 4, a, b, c⟩) 64)).cell? ⟨w.heap.size, 0, none⟩ = some (.int .i64 ((k : Int) + 4)) := by simp [go_sem]
 have k1 : (w.alloc (.cells (icCells ⟨(k : Int) + 4, a, b, c⟩) 64)).cell? ⟨w.heap.size, 1, none⟩ = some (.int .i64 a) := by simp [go_sem]
 have k2 : (w.alloc (.cells (icCells ⟨(k : Int) + 4, a, b, c⟩) 64)).cell? ⟨w.heap.size, 2, none⟩ = some (.int .i64 b) := by simp [go_sem]
 have k3 : (w.alloc (.cells (icCells ⟨(k : Int) + 4, a, b, c⟩) 64)).cell? ⟨w.heap.size, 3, none⟩ = some (.int .i64 c) := by simp [go_sem]
 have hB : Below w.heap.size w (w.alloc (.cells (icCells ⟨(k : Int) + 4, a, b, c⟩) 64)) := (Below.refl _ _).alloc (Nat.le_refl _) _
 have e1 : ((k : Int) + 4 == 12) = false := by rw [beq_eq_false_iff_ne]; omega
 have e2 : ((k : Int) + 4 == 13) = false := by rw [beq_eq_false_iff_ne]; omega
 have e3 : ((k : Int) + 4 == 1) = false := by rw [beq_eq_false_iff_ne]; omega
 have e4 : ((k : Int) + 4 == 2) = false := by rw [beq_eq_false_iff_ne]; omega
 have e5 : ((k : Int) + 4 == 3) = false := by rw [beq_eq_false_iff_ne]; omega
 have e6 : ((k : Int) + 4 == 11) = false := by rw [beq_eq_false_iff_ne]; omega
 have e7 : ((k : Int) + 4 == 14) = false := by rw [beq_eq_false_iff_ne]; omega
 have e8 : ((k : Int) + 4 == 15) = false := by rw [beq_eq_false_iff_ne]; omega
 have ik0 : (0 : Int) ≤ (k : Int) := by omega
 have ik1 : (k : Int) < 7 := by omega
 have ia0 : (0 : Int) ≤ (a : Int) := by omega
 have ia1 : (a : Int) < 100 := by omega
 have ib0 : (0 : Int) ≤ (b : Int) := by omega
 have ib1 : (b : Int) < 100 := by omega
 have ic0 : (0 : Int) ≤ (c : Int) := by omega
 have ic1 : (c : Int) < 100 := by omega
 have hne : ¬ g = w.heap.size := by omega
 have hne2 : w.heap.size ≠ g := by omega
 rw [← hB.cell (p := ⟨g, _, none⟩) hlt] at d0 d1 f0 f1
 clear hR hO HE hx hz hy
 go_enter Tryz.func30, Tryz.ntmps30
 go_upto_region 2 with fail
 generalize (w.alloc (.cells (icCells ⟨(k : Int) + 4, a, b, c⟩) 64)) = W at *
 have HRW : Hid (RegsAt W g s.regs) := HR.out.block (hB.block g hlt)
 have HB : Hid (Below w.heap.size w W) := hB
 have HK : Hid (∀ V : World, V.heap[w.heap.size]? = W.heap[w.heap.size]? → V.cell? ⟨w.heap.size, 0, none⟩ = some (.int .i64 ((k : Int) + 4)) ∧ V.cell? ⟨w.heap.size, 1, none⟩ = some (.int .i64 a) ∧ V.cell? ⟨w.heap.size, 2, none⟩ = some (.int .i64 b) ∧ V.cell? ⟨w.heap.size, 3, none⟩ = some (.int .i64 c)) := fun V e => ⟨(World.cell?_of_block (a := ⟨w.heap.size, 0, none⟩) e).trans k0, (World.cell?_of_block (a := ⟨w.heap.size, 1, none⟩) e).trans k1, (World.cell?_of_block (a := ⟨w.heap.size, 2, none⟩) e).trans k2, (World.cell?_of_block (a := ⟨w.heap.size, 3, none⟩) e).trans k3⟩
 have hgW : g < W.heap.size := by have := hB.size; omega
 clear hB k0 k1 k2 k3
 have hwk : IntKind.i64.wrap (k : Int) = k := by rw [IntKind.wrap_i64]; omega
 refine wp_region_held_drew (S := fun w' => w'.cell? ⟨w.heap.size, 0, none⟩ = some (.int .i64 ((k : Int) + 4)) ∧ w'.cell? ⟨w.heap.size, 1, none⟩ = some (.int .i64 a) ∧ w'.cell? ⟨w.heap.size, 2, none⟩ = some (.int .i64 b) ∧ w'.cell? ⟨w.heap.size, 3, none⟩ = some (.int .i64 c)) (by kernel_rfl) (HK.out _ rfl) (fun hHeld => ?_)
 refine wpAnyH_take (i := 0) (v := ?v0) rfl (by kernel_rfl) (by kernel_rfl) (by kernel_rfl) (fun _ _ _ h => h) (Or.inl ⟨by rfl, ?hy0⟩) (by assumption) ?rest0
 case hy0 => (intro w hSw; (try dsimp only at hSw); go_simp; (try with_reducible rfl))
 simp only [Act.put, List.setIfInBounds_toArray, List.set_cons_zero, List.set_cons_succ, List.getElem_toArray, List.getElem_cons_zero, List.getElem_cons_succ]
 refine wpAnyH_take (i := 1) (v := ?v1) rfl (by kernel_rfl) (by kernel_rfl) (by kernel_rfl) (fun _ _ _ h => h) (Or.inl ⟨by rfl, ?hy1⟩) (by assumption) ?rest1
 case hy1 => (intro w hSw; (try dsimp only at hSw); go_simp; (try with_reducible rfl))
 simp only [Act.put, List.setIfInBounds_toArray, List.set_cons_zero, List.set_cons_succ, List.getElem_toArray, List.getElem_cons_zero, List.getElem_cons_succ]
 refine wpAnyH_take (i := 2) (v := ?v2) rfl (by kernel_rfl) (by kernel_rfl) (by kernel_rfl) (fun _ _ _ h => h) (Or.inl ⟨by rfl, ?hy2⟩) (by assumption) ?rest2
 case hy2 => (intro w hSw; (try dsimp only at hSw); go_simp; (try with_reducible rfl))
 simp only [Act.put, List.setIfInBounds_toArray, List.set_cons_zero, List.set_cons_succ, List.getElem_toArray, List.getElem_cons_zero, List.getElem_cons_succ]
 refine wpAnyH_take (i := 3) (v := ?v3) rfl (by kernel_rfl) (by kernel_rfl) (by kernel_rfl) (fun _ _ _ h => h) (Or.inl ⟨by rfl, ?hy3⟩) (by assumption) ?rest3
 case hy3 => (intro w hSw; (try dsimp only at hSw); go_simp; (try with_reducible rfl))
 simp only [Act.put, List.setIfInBounds_toArray, List.set_cons_zero, List.set_cons_succ, List.getElem_toArray, List.getElem_cons_zero, List.getElem_cons_succ]
 refine wpAnyH_take (i := 4) (v := ?v4) rfl (by kernel_rfl) (by kernel_rfl) (by kernel_rfl) (fun _ _ _ h => h) (Or.inl ⟨by rfl, ?hy4⟩) (by assumption) ?rest4
 case hy4 => (intro w hSw; (try dsimp only at hSw); go_simp; (try with_reducible rfl))
 simp only [Act.put, List.setIfInBounds_toArray, List.set_cons_zero, List.set_cons_succ, List.getElem_toArray, List.getElem_cons_zero, List.getElem_cons_succ]
 refine wpAnyH_take (i := 5) (v := ?v5) rfl (by kernel_rfl) (by kernel_rfl) (by kernel_rfl) (fun _ _ _ h => h) (Or.inl ⟨by rfl, ?hy5⟩) (by assumption) ?rest5
 case hy5 => (intro w hSw; (try dsimp only at hSw); go_simp; (try with_reducible rfl))
 simp only [Act.put, List.setIfInBounds_toArray, List.set_cons_zero, List.set_cons_succ, List.getElem_toArray, List.getElem_cons_zero, List.getElem_cons_succ]
 refine wpAnyH_take (i := 6) (v := ?v6) rfl (by kernel_rfl) (by kernel_rfl) (by kernel_rfl) (fun _ _ _ h => h) (Or.inl ⟨by rfl, ?hy6⟩) (by assumption) ?rest6
 case hy6 => (intro w hSw; (try dsimp only at hSw); go_simp; rfl)
 simp only [Act.put, List.setIfInBounds_toArray, List.set_cons_zero, List.set_cons_succ, List.getElem_toArray, List.getElem_cons_zero, List.getElem_cons_succ]
 refine wpAnyH_take (i := 7) (v := ?v7) rfl (by kernel_rfl) (by kernel_rfl) (by kernel_rfl) (fun _ _ _ h => h) (Or.inl ⟨by rfl, ?hy7⟩) (by assumption) ?rest7
 case hy7 => (intro w hSw; (try dsimp only at hSw); go_simp; (try with_reducible rfl))
 simp only [Act.put, List.setIfInBounds_toArray, List.set_cons_zero, List.set_cons_succ, List.getElem_toArray, List.getElem_cons_zero, List.getElem_cons_succ]
 refine wpAnyH_take (i := 8) (v := ?v8) rfl (by kernel_rfl) (by kernel_rfl) (by kernel_rfl) (fun _ _ _ h => h) (Or.inl ⟨by rfl, ?hy8⟩) (by assumption) ?rest8
 case hy8 => (intro w hSw; (try dsimp only at hSw); go_simp; (try with_reducible rfl))
 simp only [Act.put, List.setIfInBounds_toArray, List.set_cons_zero, List.set_cons_succ, List.getElem_toArray, List.getElem_cons_zero, List.getElem_cons_succ]
 refine wpAnyH_take (i := 9) (v := ?v9) rfl (by kernel_rfl) (by kernel_rfl) (by kernel_rfl) (fun _ _ _ h => h) (Or.inl ⟨by rfl, ?hy9⟩) (by assumption) ?rest9
 case hy9 => (intro w hSw; (try dsimp only at hSw); go_simp; (try with_reducible rfl))
 simp only [Act.put, List.setIfInBounds_toArray, List.set_cons_zero, List.set_cons_succ, List.getElem_toArray, List.getElem_cons_zero, List.getElem_cons_succ]
 refine wpAnyH_take (i := 10) (v := ?v10) rfl (by kernel_rfl) (by kernel_rfl) (by kernel_rfl) (fun _ _ _ h => h) (Or.inl ⟨by rfl, ?hy10⟩) (by assumption) ?rest10
 case hy10 => (intro w hSw; (try dsimp only at hSw); go_simp; (try with_reducible rfl))
 simp only [Act.put, List.setIfInBounds_toArray, List.set_cons_zero, List.set_cons_succ, List.getElem_toArray, List.getElem_cons_zero, List.getElem_cons_succ]
 refine wpAnyH_take (i := 12) (v := ?v12) rfl (by kernel_rfl) (by kernel_rfl) (by kernel_rfl) (fun _ _ _ h => h) (Or.inl ⟨by rfl, ?hy12⟩) (by assumption) ?rest12
 case hy12 => (intro w hSw; (try dsimp only at hSw); go_simp; (try with_reducible rfl))
 simp only [Act.put, List.setIfInBounds_toArray, List.set_cons_zero, List.set_cons_succ, List.getElem_toArray, List.getElem_cons_zero, List.getElem_cons_succ]
 refine wpAnyH_take (i := 13) (v := ?v13) rfl (by kernel_rfl) (by kernel_rfl) (by kernel_rfl) (fun _ _ _ h => h) (Or.inl ⟨by rfl, ?hy13⟩) (by assumption) ?rest13
 case hy13 => (intro w hSw; (try dsimp only at hSw); go_simp; (try with_reducible rfl))
 simp only [Act.put, List.setIfInBounds_toArray, List.set_cons_zero, List.set_cons_succ, List.getElem_toArray, List.getElem_cons_zero, List.getElem_cons_succ]
 refine wpAnyH_take (i := 14) (v := ?v14) rfl (by kernel_rfl) (by kernel_rfl) (by kernel_rfl) (fun _ _ _ h => h) (Or.inl ⟨by rfl, ?hy14⟩) (by assumption) ?rest14
 case hy14 => (intro w hSw; (try dsimp only at hSw); go_simp; (try with_reducible rfl))
 simp only [Act.put, List.setIfInBounds_toArray, List.set_cons_zero, List.set_cons_succ, List.getElem_toArray, List.getElem_cons_zero, List.getElem_cons_succ]
 refine wpAnyH_take (i := 15) (v := ?v15) rfl (by kernel_rfl) (by kernel_rfl) (by kernel_rfl) (fun _ _ _ h => h) (Or.inl ⟨by rfl, ?hy15⟩) (by assumption) ?rest15
 case hy15 => (intro w hSw; (try dsimp only at hSw); go_simp; (try with_reducible rfl))
 simp only [Act.put, List.setIfInBounds_toArray, List.set_cons_zero, List.set_cons_succ, List.getElem_toArray, List.getElem_cons_zero, List.getElem_cons_succ]
 refine wpAnyH_ready (rs := [11, 16]) (by kernel_rfl) (by simp) ?_
 refine AllReadyH.cons rfl (fun K hK => ?_) (AllReadyH.cons rfl (fun K hK => ?_) AllReadyH.nil)
 ·go_simp
  refine hK.out _ _ (HK.out _ rfl) (fun hHeld => ?_)
  clear hK K
  try simp only [Act.put, List.setIfInBounds_toArray, List.set_cons_zero, List.set_cons_succ, List.getElem_toArray, List.getElem_cons_zero, List.getElem_cons_succ]
  refine wpAnyH_ready (rs := [16]) (by kernel_rfl) (by simp) ?_
  refine AllReadyH.cons rfl (fun K hK => ?_) AllReadyH.nil
  go_simp
  refine hK.out _ _ (HK.out _ rfl) (fun hHeld => ?_)
  clear hK K
  try simp only [Act.put, List.setIfInBounds_toArray, List.set_cons_zero, List.set_cons_succ, List.getElem_toArray, List.getElem_cons_zero, List.getElem_cons_succ]
  refine wpAnyH_ready (rs := [17]) (by kernel_rfl) (by simp) ?_
  refine AllReadyH.cons rfl (fun K hK => ?_) AllReadyH.nil
  go_simp
  refine (HN.out _).mono ?_
  rintro e5 w5 ⟨rfl, hb5⟩
  obtain ⟨c0, c1, fz⟩ := turn_after2 HRW.out hb5 a hal
  try go_simp
  refine hK.out _ _ (HK.out _ (hb5.block _ hltW)) (fun hHeld => ?_)
  clear hK K
  try simp only [Act.put, List.setIfInBounds_toArray, List.set_cons_zero, List.set_cons_succ, List.getElem_toArray, List.getElem_cons_zero, List.getElem_cons_succ]
  refine wpAnyH_take (i := 18) (v := ?v18a) rfl (by kernel_rfl) (by kernel_rfl) (by kernel_rfl) (fun _ _ _ h => h) (Or.inl ⟨by rfl, ?hy18a⟩) (by assumption) ?rest18a
  case hy18a => (intro w hSw; (try dsimp only at hSw); go_simp; (try with_reducible rfl))
  simp only [Act.put, List.setIfInBounds_toArray, List.set_cons_zero, List.set_cons_succ, List.getElem_toArray, List.getElem_cons_zero, List.getElem_cons_succ]
  refine wpAnyH_ready (rs := [19]) (by kernel_rfl) (by simp) ?_
  refine AllReadyH.cons rfl (fun K hK => ?_) AllReadyH.nil
  go_simp
  refine hK.out _ _ (HK.out _ ((Below.heap_setCell _ _ _ _ hne2).trans ((Below.heap_setCell _ _ _ _ hne2).trans (hb5.block _ hltW)))) (fun hHeld => ?_)
  clear hK K
  try simp only [Act.put, List.setIfInBounds_toArray, List.set_cons_zero, List.set_cons_succ, List.getElem_toArray, List.getElem_cons_zero, List.getElem_cons_succ]
  refine wpAnyH_done (by kernel_rfl) ?_ _
  go_wp2_with fail
  go_ret
  exact ⟨rfl, turn_call2 HR.out HB.out hb5 a hal z⟩
 ·go_simp
  refine hK.out _ _ (HK.out _ rfl) (fun hHeld => ?_)
  clear hK K
  try simp only [Act.put, List.setIfInBounds_toArray, List.set_cons_zero, List.set_cons_succ, List.getElem_toArray, List.getElem_cons_zero, List.getElem_cons_succ]
  refine wpAnyH_ready (rs := [11]) (by kernel_rfl) (by simp) ?_
  refine AllReadyH.cons rfl (fun K hK => ?_) AllReadyH.nil
  go_simp
  refine hK.out _ _ (HK.out _ rfl) (fun hHeld => ?_)
  clear hK K
  try simp only [Act.put, List.setIfInBounds_toArray, List.set_cons_zero, List.set_cons_succ, List.getElem_toArray, List.getElem_cons_zero, List.getElem_cons_succ]
  refine wpAnyH_ready (rs := [17]) (by kernel_rfl) (by simp) ?_
  refine AllReadyH.cons rfl (fun K hK => ?_) AllReadyH.nil
  go_simp
  refine (HN.out _).mono ?_
  rintro e5 w5 ⟨rfl, hb5⟩
  obtain ⟨c0, c1, fz⟩ := turn_after2 HRW.out hb5 a hal
  try go_simp
  refine hK.out _ _ (HK.out _ (hb5.block _ hltW)) (fun hHeld => ?_)
  clear hK K
  try simp only [Act.put, List.setIfInBounds_toArray, List.set_cons_zero, List.set_cons_succ, List.getElem_toArray, List.getElem_cons_zero, List.getElem_cons_succ]
  refine wpAnyH_take (i := 18) (v := ?v18b) rfl (by kernel_rfl) (by kernel_rfl) (by kernel_rfl) (fun _ _ _ h => h) (Or.inl ⟨by rfl, ?hy18b⟩) (by assumption) ?rest18b
  case hy18b => (intro w hSw; (try dsimp only at hSw); go_simp; (try with_reducible rfl))
  simp only [Act.put, List.setIfInBounds_toArray, List.set_cons_zero, List.set_cons_succ, List.getElem_toArray, List.getElem_cons_zero, List.getElem_cons_succ]
  refine wpAnyH_ready (rs := [19]) (by kernel_rfl) (by simp) ?_
  refine AllReadyH.cons rfl (fun K hK => ?_) AllReadyH.nil
  go_simp
  refine hK.out _ _ (HK.out _ ((Below.heap_setCell _ _ _ _ hne2).trans ((Below.heap_setCell _ _ _ _ hne2).trans (hb5.block _ hltW)))) (fun hHeld => ?_)
  clear hK K
  try simp only [Act.put, List.setIfInBounds_toArray, List.set_cons_zero, List.set_cons_succ, List.getElem_toArray, List.getElem_cons_zero, List.getElem_cons_succ]
  refine wpAnyH_done (by kernel_rfl) ?_ _
  go_wp2_with fail
  go_ret
  exact ⟨rfl, turn_call2 HR.out HB.out hb5 a hal z⟩
end Go.Proofs.YtdgmoiflahoihaaGreat
