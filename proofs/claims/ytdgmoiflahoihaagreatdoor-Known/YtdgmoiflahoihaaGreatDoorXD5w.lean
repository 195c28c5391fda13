import Derived.Test.YtdgmoiflahoihaaGreatDoorXDw
import Derived.Test.YtdgmoiflahoihaaGreatDoorVAw
import Derived.Test.YtdgmoiflahoihaaGreatDoorRTakew
import Derived.Test.YtdgmoiflahoihaaGreatDoorPCheckw
import Derived.Test.YtdgmoiflahoihaaGreatDoorLNtw
import Derived.Test.YtdgmoiflahoihaaGreatDoorLNmw

namespace Go.Proofs.YtdgmoiflahoihaaGreatDoor
open Go.RowKit
set_option linter.unusedSimpArgs false
set_option linter.unusedVariables false
set_option maxRecDepth 100000 in
set_option maxHeartbeats 4000000 in
theorem d_neg (b : Nat) (s : XS) (w : World) (hS : XAt w b s) (hO : XOk s) (hpc : s.pc ≤ 2000) (fs : List Int) (vf : Value) (a c : Nat) (d : Int) (ha : a < 100) (hc : c < 100) :
  Calls Tryz.prog 99 #[.pointer (some ⟨b, 0, none⟩), icV ⟨3, a, c, d⟩, vf] w (DoPost w b (stepX ⟨3, a, c, d⟩ fs s)) := by
 have HE : Hid (stepX ⟨3, a, c, d⟩ fs s = ⟨s.regs.set a (negV (s.regs.getD c vl0)), s.notes, s.pc + 1⟩) := by show _ = _; unfold stepX; simp [give_nat, reg_nat]
 rw [HE.out]
 have HB : Hid _ := boxAt2 hS ⟨3, a, c, d⟩
 have ia0 : (0 : Int) ≤ (a : Int) := by omega
 have ia1 : (a : Int) < 100 := by omega
 have ic0 : (0 : Int) ≤ (c : Int) := by omega
 have ic1 : (c : Int) < 100 := by omega
 have hx : VlOk (s.regs.getD c vl0) := hO.reg (c : Nat)
 have hp := hS.pc
 have fz := hS.fz
 have hlt := hS.lt
 have HO : Hid (XOk s) := hO
 have hln : s.regs.length = 100 := hO.len
 clear hO HE hS
 go_enter Tryz.func99, Tryz.ntmps99
 go_upto_region 2 with fail
 generalize ((w.setCell ⟨b, 201, none⟩ (.int .i64 ((s.pc : Int) + 1))).alloc (.cells (icCells ⟨3, a, c, d⟩) 87)) = W at *
 obtain ⟨k0, k1, k2, k3, hst, hlow, hsz⟩ := HB.out
 simp only at k0 k1 k2 k3
 have hp2 := hst.pc
 have fz2 := hst.fz
 have HST : Hid (XAt W b ⟨s.regs, s.notes, s.pc + 1⟩) := hst
 have HLOW : Hid (Below b w W) := hlow
 have hbW : w.heap.size < W.heap.size := by omega
 have hbb : b < W.heap.size := by omega
 clear hlow HB hp fz
 obtain ⟨c0, c1⟩ := hst.cell c hc
 simp only at c0 c1
 clear hst
 generalize s.regs.getD c vl0 = x at *
 have HN : Hid (GivesV 131 #[vlV x] (negV x)) := neg_any x hx
 generalize negV x = y at *
 obtain ⟨xn, xf⟩ := x
 simp only at c0 c1
 have HK : Hid (∀ w' : World, w'.heap[w.heap.size]? = W.heap[w.heap.size]? → w'.cell? ⟨w.heap.size, 0, none⟩ = some (.int .i64 3) ∧ w'.cell? ⟨w.heap.size, 1, none⟩ = some (.int .i64 a) ∧ w'.cell? ⟨w.heap.size, 2, none⟩ = some (.int .i64 c) ∧ w'.cell? ⟨w.heap.size, 3, none⟩ = some (.int .i64 d)) := fun V e => ⟨(World.cell?_of_block (a := ⟨w.heap.size, 0, none⟩) e).trans k0, (World.cell?_of_block (a := ⟨w.heap.size, 1, none⟩) e).trans k1, (World.cell?_of_block (a := ⟨w.heap.size, 2, none⟩) e).trans k2, (World.cell?_of_block (a := ⟨w.heap.size, 3, none⟩) e).trans k3⟩
 have hne2 : w.heap.size ≠ b := by omega
 clear k0 k1 k2 k3 hx
 have hpick := HK.out W rfl
 go_split_ands
 go_upto_region 9 with fail
 refine wp_region_held_drew (S := fun w' => w'.cell? ⟨w.heap.size, 0, none⟩ = some (.int .i64 3) ∧ w'.cell? ⟨w.heap.size, 1, none⟩ = some (.int .i64 a) ∧ w'.cell? ⟨w.heap.size, 2, none⟩ = some (.int .i64 c) ∧ w'.cell? ⟨w.heap.size, 3, none⟩ = some (.int .i64 d)) (by kernel_rfl) (HK.out _ rfl) (fun hHeld => ?_)
 refine wpAnyH_take (i := 0) (v := ?v0) rfl (by kernel_rfl) (by kernel_rfl) (by kernel_rfl) (fun _ _ _ h => h) (Or.inl ⟨by rfl, ?hy0⟩) (by assumption) ?rest0
 case hy0 => (intro w hSw; (try dsimp only at hSw); go_simp; (try with_reducible rfl))
 simp only [Act.put, List.setIfInBounds_toArray, List.set_cons_zero, List.set_cons_succ, List.getElem_toArray, List.getElem_cons_zero, List.getElem_cons_succ]
 refine wpAnyH_take (i := 1) (v := ?v1) rfl (by kernel_rfl) (by kernel_rfl) (by kernel_rfl) (fun _ _ _ h => h) (Or.inl ⟨by rfl, ?hy1⟩) (by assumption) ?rest1
 case hy1 => (intro w hSw; (try dsimp only at hSw); go_simp; (try with_reducible rfl))
 simp only [Act.put, List.setIfInBounds_toArray, List.set_cons_zero, List.set_cons_succ, List.getElem_toArray, List.getElem_cons_zero, List.getElem_cons_succ]
 refine wpAnyH_take (i := 2) (v := ?v2) rfl (by kernel_rfl) (by kernel_rfl) (by kernel_rfl) (fun _ _ _ h => h) (Or.inl ⟨by rfl, ?hy2⟩) (by assumption) ?rest2
 case hy2 => (intro w hSw; (try dsimp only at hSw); go_simp; (try with_reducible rfl))
 simp only [Act.put, List.setIfInBounds_toArray, List.set_cons_zero, List.set_cons_succ, List.getElem_toArray, List.getElem_cons_zero, List.getElem_cons_succ]
 refine wpAnyH_take (i := 3) (v := ?v3) rfl (by kernel_rfl) (by kernel_rfl) (by kernel_rfl) (fun _ _ _ h => h) (Or.inl ⟨by rfl, ?hy3⟩) (by assumption) ?rest3
 case hy3 => (intro w hSw; (try dsimp only at hSw); go_simp; (try with_reducible rfl))
 simp only [Act.put, List.setIfInBounds_toArray, List.set_cons_zero, List.set_cons_succ, List.getElem_toArray, List.getElem_cons_zero, List.getElem_cons_succ]
 refine wpAnyH_take (i := 4) (v := ?v4) rfl (by kernel_rfl) (by kernel_rfl) (by kernel_rfl) (fun _ _ _ h => h) (Or.inl ⟨by rfl, ?hy4⟩) (by assumption) ?rest4
 case hy4 => (intro w hSw; (try dsimp only at hSw); go_simp; (try with_reducible rfl))
 simp only [Act.put, List.setIfInBounds_toArray, List.set_cons_zero, List.set_cons_succ, List.getElem_toArray, List.getElem_cons_zero, List.getElem_cons_succ]
 refine wpAnyH_take (i := 5) (v := ?v5) rfl (by kernel_rfl) (by kernel_rfl) (by kernel_rfl) (fun _ _ _ h => h) (Or.inl ⟨by rfl, ?hy5⟩) (by assumption) ?rest5
 case hy5 => (intro w hSw; (try dsimp only at hSw); go_simp; (try with_reducible rfl))
 simp only [Act.put, List.setIfInBounds_toArray, List.set_cons_zero, List.set_cons_succ, List.getElem_toArray, List.getElem_cons_zero, List.getElem_cons_succ]
 refine wpAnyH_take (i := 6) (v := ?v6) rfl (by kernel_rfl) (by kernel_rfl) (by kernel_rfl) (fun _ _ _ h => h) (Or.inl ⟨by rfl, ?hy6⟩) (by assumption) ?rest6
 case hy6 => (intro w hSw; (try dsimp only at hSw); go_simp; (try with_reducible rfl))
 simp only [Act.put, List.setIfInBounds_toArray, List.set_cons_zero, List.set_cons_succ, List.getElem_toArray, List.getElem_cons_zero, List.getElem_cons_succ]
 refine wpAnyH_take (i := 7) (v := ?v7) rfl (by kernel_rfl) (by kernel_rfl) (by kernel_rfl) (fun _ _ _ h => h) (Or.inl ⟨by rfl, ?hy7⟩) (by assumption) ?rest7
 case hy7 => (intro w hSw; (try dsimp only at hSw); go_simp; (try with_reducible rfl))
 simp only [Act.put, List.setIfInBounds_toArray, List.set_cons_zero, List.set_cons_succ, List.getElem_toArray, List.getElem_cons_zero, List.getElem_cons_succ]
 refine wpAnyH_take (i := 8) (v := ?v8) rfl (by kernel_rfl) (by kernel_rfl) (by kernel_rfl) (fun _ _ _ h => h) (Or.inl ⟨by rfl, ?hy8⟩) (by assumption) ?rest8
 case hy8 => (intro w hSw; (try dsimp only at hSw); go_simp; (try with_reducible rfl))
 simp only [Act.put, List.setIfInBounds_toArray, List.set_cons_zero, List.set_cons_succ, List.getElem_toArray, List.getElem_cons_zero, List.getElem_cons_succ]
 refine wpAnyH_take (i := 11) (v := ?v11e) rfl (by kernel_rfl) (by kernel_rfl) (by kernel_rfl) (fun _ _ _ h => h) (Or.inl ⟨by rfl, ?hy11e⟩) (by assumption) ?rest11e
 case hy11e => (intro w hSw; (try dsimp only at hSw); go_simp; (try with_reducible rfl))
 simp only [Act.put, List.setIfInBounds_toArray, List.set_cons_zero, List.set_cons_succ, List.getElem_toArray, List.getElem_cons_zero, List.getElem_cons_succ]
 refine wpAnyH_take (i := 12) (v := ?v12e) rfl (by kernel_rfl) (by kernel_rfl) (by kernel_rfl) (fun _ _ _ h => h) (Or.inl ⟨by rfl, ?hy12e⟩) (by assumption) ?rest12e
 case hy12e => (intro w hSw; (try dsimp only at hSw); go_simp; (try with_reducible rfl))
 simp only [Act.put, List.setIfInBounds_toArray, List.set_cons_zero, List.set_cons_succ, List.getElem_toArray, List.getElem_cons_zero, List.getElem_cons_succ]
 refine wpAnyH_ready (rs := [9]) (by kernel_rfl) (by simp) ?_
 refine AllReadyH.cons rfl (fun K hK => ?_) AllReadyH.nil
 go_simp
 refine hK.out _ _ (HK.out _ rfl) (fun hHeld => ?_)
 clear hK K
 try simp only [Act.put, List.setIfInBounds_toArray, List.set_cons_zero, List.set_cons_succ, List.getElem_toArray, List.getElem_cons_zero, List.getElem_cons_succ]
 refine wpAnyH_ready (rs := [10]) (by kernel_rfl) (by simp) ?_
 refine AllReadyH.cons rfl (fun K hK => ?_) AllReadyH.nil
 go_simp
 refine (HN.out _).mono ?_
 rintro e5 w5 ⟨rfl, hb5⟩
 have h5 := x_after HST.out hb5
 have h5c := h5.1.cell a ha
 have h5f := h5.1.fz
 obtain ⟨q0, q1⟩ := h5c
 try go_simp
 refine hK.out _ _ (HK.out _ (hb5.block _ hbW)) (fun hHeld => ?_)
 clear hK K
 try simp only [Act.put, List.setIfInBounds_toArray, List.set_cons_zero, List.set_cons_succ, List.getElem_toArray, List.getElem_cons_zero, List.getElem_cons_succ]
 refine wpAnyH_take (i := 13) (v := ?v13t) rfl (by kernel_rfl) (by kernel_rfl) (by kernel_rfl) (fun _ _ _ h => h) (Or.inl ⟨by rfl, ?hy13t⟩) (by assumption) ?rest13t
 case hy13t => (intro w hSw; (try dsimp only at hSw); go_simp; (try with_reducible rfl))
 simp only [Act.put, List.setIfInBounds_toArray, List.set_cons_zero, List.set_cons_succ, List.getElem_toArray, List.getElem_cons_zero, List.getElem_cons_succ]
 refine wpAnyH_ready (rs := [14]) (by kernel_rfl) (by simp) ?_
 refine AllReadyH.cons rfl (fun K hK => ?_) AllReadyH.nil
 go_simp
 refine hK.out _ _ (HK.out _ ((Below.heap_setCell _ _ _ _ hne2).trans ((Below.heap_setCell _ _ _ _ hne2).trans (hb5.block _ hbW)))) (fun hHeld => ?_)
 clear hK K
 try simp only [Act.put, List.setIfInBounds_toArray, List.set_cons_zero, List.set_cons_succ, List.getElem_toArray, List.getElem_cons_zero, List.getElem_cons_succ]
 refine wpAnyH_done (by kernel_rfl) ?_ _
 go_wp2_with fail
 go_end0
 exact ⟨rfl, h5.1.set hln a ha y, ((HLOW.out.trans (h5.2.mono (by omega))).setCell (by simp) _).setCell (by simp) _⟩
set_option maxRecDepth 100000 in
set_option maxHeartbeats 4000000 in
theorem d_op (b : Nat) (s : XS) (w : World) (hS : XAt w b s) (hO : XOk s) (hpc : s.pc ≤ 2000) (fs : List Int) (vf : Value) (k a c d : Nat) (hk : k < 7) (ha : a < 100) (hc : c < 100) (hd : d < 100) :
  Calls Tryz.prog 99 #[.pointer (some ⟨b, 0, none⟩), icV ⟨(k : Int) + 4, a, c, d⟩, vf] w (DoPost w b (stepX ⟨(k : Int) + 4, a, c, d⟩ fs s)) := by
 have HE : Hid (stepX ⟨(k : Int) + 4, a, c, d⟩ fs s = ⟨s.regs.set a (opV ((k : Int) + 4) (s.regs.getD c vl0) (s.regs.getD d vl0)), s.notes, s.pc + 1⟩) := by
  show _ = _
  unfold stepX
  simp only
  rw [if_neg (by omega), if_neg (by omega), if_neg (by omega), if_neg (by omega), if_neg (by omega), if_neg (by omega), if_neg (by omega), if_neg (by omega), give_nat, reg_nat, reg_nat]
 rw [HE.out]
 have HB : Hid _ := boxAt2 hS ⟨(k : Int) + 4, a, c, d⟩
 have ia0 : (0 : Int) ≤ (a : Int) := by omega
 have ia1 : (a : Int) < 100 := by omega
 have ic0 : (0 : Int) ≤ (c : Int) := by omega
 have ic1 : (c : Int) < 100 := by omega
 have id0 : (0 : Int) ≤ (d : Int) := by omega
 have id1 : (d : Int) < 100 := by omega
 have e1 : ((k : Int) + 4 == 12) = false := by rw [beq_eq_false_iff_ne]; omega
 have e2 : ((k : Int) + 4 == 13) = false := by rw [beq_eq_false_iff_ne]; omega
 have e3 : ((k : Int) + 4 == 1) = false := by rw [beq_eq_false_iff_ne]; omega
 have e4 : ((k : Int) + 4 == 2) = false := by rw [beq_eq_false_iff_ne]; omega
 have e5 : ((k : Int) + 4 == 3) = false := by rw [beq_eq_false_iff_ne]; omega
 have e6 : ((k : Int) + 4 == 11) = false := by rw [beq_eq_false_iff_ne]; omega
 have e7 : ((k : Int) + 4 == 14) = false := by rw [beq_eq_false_iff_ne]; omega
 have e8 : ((k : Int) + 4 == 15) = false := by rw [beq_eq_false_iff_ne]; omega
 have hx : VlOk (s.regs.getD c vl0) := hO.reg (c : Nat)
 have hy : VlOk (s.regs.getD d vl0) := hO.reg (d : Nat)
 have hp := hS.pc
 have fz := hS.fz
 have hlt := hS.lt
 have HO : Hid (XOk s) := hO
 have hln : s.regs.length = 100 := hO.len
 clear hO HE hS
 go_enter Tryz.func99, Tryz.ntmps99
 go_upto_region 2 with fail
 generalize ((w.setCell ⟨b, 201, none⟩ (.int .i64 ((s.pc : Int) + 1))).alloc (.cells (icCells ⟨(k : Int) + 4, a, c, d⟩) 87)) = W at *
 obtain ⟨k0, k1, k2, k3, hst, hlow, hsz⟩ := HB.out
 simp only at k0 k1 k2 k3
 have hp2 := hst.pc
 have fz2 := hst.fz
 have HST : Hid (XAt W b ⟨s.regs, s.notes, s.pc + 1⟩) := hst
 have HLOW : Hid (Below b w W) := hlow
 have hbW : w.heap.size < W.heap.size := by omega
 have hbb : b < W.heap.size := by omega
 clear hlow HB hp fz
 obtain ⟨c0, c1⟩ := hst.cell c hc
 obtain ⟨d0, d1⟩ := hst.cell d hd
 simp only at c0 c1 d0 d1
 clear hst
 generalize s.regs.getD c vl0 = x at *
 generalize s.regs.getD d vl0 = y at *
 have HN : Hid (GivesV 134 #[.int .i64 ((k : Int) + 4), vlV x, vlV y] (opV ((k : Int) + 4) x y)) := of_any ((k : Int) + 4) x y hx hy
 generalize opV ((k : Int) + 4) x y = z at *
 obtain ⟨xn, xf⟩ := x
 obtain ⟨yn, yf⟩ := y
 simp only at c0 c1 d0 d1
 have HK : Hid (∀ w' : World, w'.heap[w.heap.size]? = W.heap[w.heap.size]? → w'.cell? ⟨w.heap.size, 0, none⟩ = some (.int .i64 ((k : Int) + 4)) ∧ w'.cell? ⟨w.heap.size, 1, none⟩ = some (.int .i64 a) ∧ w'.cell? ⟨w.heap.size, 2, none⟩ = some (.int .i64 c) ∧ w'.cell? ⟨w.heap.size, 3, none⟩ = some (.int .i64 d)) := fun V e => ⟨(World.cell?_of_block (a := ⟨w.heap.size, 0, none⟩) e).trans k0, (World.cell?_of_block (a := ⟨w.heap.size, 1, none⟩) e).trans k1, (World.cell?_of_block (a := ⟨w.heap.size, 2, none⟩) e).trans k2, (World.cell?_of_block (a := ⟨w.heap.size, 3, none⟩) e).trans k3⟩
 have hne2 : w.heap.size ≠ b := by omega
 clear k0 k1 k2 k3 hx hy
 have hpick := HK.out W rfl
 go_split_ands
 go_upto_region 3 with fail
 refine wp_region_held_drew (S := fun w' => w'.cell? ⟨w.heap.size, 0, none⟩ = some (.int .i64 ((k : Int) + 4)) ∧ w'.cell? ⟨w.heap.size, 1, none⟩ = some (.int .i64 a) ∧ w'.cell? ⟨w.heap.size, 2, none⟩ = some (.int .i64 c) ∧ w'.cell? ⟨w.heap.size, 3, none⟩ = some (.int .i64 d)) (by kernel_rfl) (HK.out _ rfl) (fun hHeld => ?_)
 refine wpAnyH_take (i := 0) (v := ?v0) rfl (by kernel_rfl) (by kernel_rfl) (by kernel_rfl) (fun _ _ _ h => h) (Or.inl ⟨by rfl, ?hy0⟩) (by assumption) ?rest0
 case hy0 => (intro w hSw; (try dsimp only at hSw); go_simp; (try with_reducible rfl))
 simp only [Act.put, List.setIfInBounds_toArray, List.set_cons_zero, List.set_cons_succ, List.getElem_toArray, List.getElem_cons_zero, List.getElem_cons_succ]
 refine wpAnyH_take (i := 1) (v := ?v1) rfl (by kernel_rfl) (by kernel_rfl) (by kernel_rfl) (fun _ _ _ h => h) (Or.inl ⟨by rfl, ?hy1⟩) (by assumption) ?rest1
 case hy1 => (intro w hSw; (try dsimp only at hSw); go_simp; (try with_reducible rfl))
 simp only [Act.put, List.setIfInBounds_toArray, List.set_cons_zero, List.set_cons_succ, List.getElem_toArray, List.getElem_cons_zero, List.getElem_cons_succ]
 refine wpAnyH_take (i := 2) (v := ?v2) rfl (by kernel_rfl) (by kernel_rfl) (by kernel_rfl) (fun _ _ _ h => h) (Or.inl ⟨by rfl, ?hy2⟩) (by assumption) ?rest2
 case hy2 => (intro w hSw; (try dsimp only at hSw); go_simp; (try with_reducible rfl))
 simp only [Act.put, List.setIfInBounds_toArray, List.set_cons_zero, List.set_cons_succ, List.getElem_toArray, List.getElem_cons_zero, List.getElem_cons_succ]
 refine wpAnyH_take (i := 3) (v := ?v3) rfl (by kernel_rfl) (by kernel_rfl) (by kernel_rfl) (fun _ _ _ h => h) (Or.inl ⟨by rfl, ?hy3⟩) (by assumption) ?rest3
 case hy3 => (intro w hSw; (try dsimp only at hSw); go_simp; (try with_reducible rfl))
 simp only [Act.put, List.setIfInBounds_toArray, List.set_cons_zero, List.set_cons_succ, List.getElem_toArray, List.getElem_cons_zero, List.getElem_cons_succ]
 refine wpAnyH_take (i := 4) (v := ?v4) rfl (by kernel_rfl) (by kernel_rfl) (by kernel_rfl) (fun _ _ _ h => h) (Or.inl ⟨by rfl, ?hy4⟩) (by assumption) ?rest4
 case hy4 => (intro w hSw; (try dsimp only at hSw); go_simp; (try with_reducible rfl))
 simp only [Act.put, List.setIfInBounds_toArray, List.set_cons_zero, List.set_cons_succ, List.getElem_toArray, List.getElem_cons_zero, List.getElem_cons_succ]
 refine wpAnyH_take (i := 5) (v := ?v5) rfl (by kernel_rfl) (by kernel_rfl) (by kernel_rfl) (fun _ _ _ h => h) (Or.inl ⟨by rfl, ?hy5⟩) (by assumption) ?rest5
 case hy5 => (intro w hSw; (try dsimp only at hSw); go_simp; (try with_reducible rfl))
 simp only [Act.put, List.setIfInBounds_toArray, List.set_cons_zero, List.set_cons_succ, List.getElem_toArray, List.getElem_cons_zero, List.getElem_cons_succ]
 refine wpAnyH_take (i := 6) (v := ?v6) rfl (by kernel_rfl) (by kernel_rfl) (by kernel_rfl) (fun _ _ _ h => h) (Or.inl ⟨by rfl, ?hy6⟩) (by assumption) ?rest6
 case hy6 => (intro w hSw; (try dsimp only at hSw); go_simp; (try with_reducible rfl))
 simp only [Act.put, List.setIfInBounds_toArray, List.set_cons_zero, List.set_cons_succ, List.getElem_toArray, List.getElem_cons_zero, List.getElem_cons_succ]
 refine wpAnyH_take (i := 7) (v := ?v7) rfl (by kernel_rfl) (by kernel_rfl) (by kernel_rfl) (fun _ _ _ h => h) (Or.inl ⟨by rfl, ?hy7⟩) (by assumption) ?rest7
 case hy7 => (intro w hSw; (try dsimp only at hSw); go_simp; (try with_reducible rfl))
 simp only [Act.put, List.setIfInBounds_toArray, List.set_cons_zero, List.set_cons_succ, List.getElem_toArray, List.getElem_cons_zero, List.getElem_cons_succ]
 refine wpAnyH_take (i := 8) (v := ?v8) rfl (by kernel_rfl) (by kernel_rfl) (by kernel_rfl) (fun _ _ _ h => h) (Or.inl ⟨by rfl, ?hy8⟩) (by assumption) ?rest8
 case hy8 => (intro w hSw; (try dsimp only at hSw); go_simp; (try with_reducible rfl))
 simp only [Act.put, List.setIfInBounds_toArray, List.set_cons_zero, List.set_cons_succ, List.getElem_toArray, List.getElem_cons_zero, List.getElem_cons_succ]
 refine wpAnyH_take (i := 9) (v := ?v9) rfl (by kernel_rfl) (by kernel_rfl) (by kernel_rfl) (fun _ _ _ h => h) (Or.inl ⟨by rfl, ?hy9⟩) (by assumption) ?rest9
 case hy9 => (intro w hSw; (try dsimp only at hSw); go_simp; (try with_reducible rfl))
 simp only [Act.put, List.setIfInBounds_toArray, List.set_cons_zero, List.set_cons_succ, List.getElem_toArray, List.getElem_cons_zero, List.getElem_cons_succ]
 refine wpAnyH_take (i := 10) (v := ?v10) rfl (by kernel_rfl) (by kernel_rfl) (by kernel_rfl) (fun _ _ _ h => h) (Or.inl ⟨by rfl, ?hy10⟩) (by assumption) ?rest10
 case hy10 => (intro w hSw; (try dsimp only at hSw); go_simp; (try with_reducible rfl))
 simp only [Act.put, List.setIfInBounds_toArray, List.set_cons_zero, List.set_cons_succ, List.getElem_toArray, List.getElem_cons_zero, List.getElem_cons_succ]
 refine wpAnyH_take (i := 12) (v := ?v12) rfl (by kernel_rfl) (by kernel_rfl) (by kernel_rfl) (fun _ _ _ h => h) (Or.inl ⟨by rfl, ?hy12⟩) (by assumption) ?rest12
 case hy12 => (intro w hSw; (try dsimp only at hSw); go_simp; (try with_reducible rfl))
 simp only [Act.put, List.setIfInBounds_toArray, List.set_cons_zero, List.set_cons_succ, List.getElem_toArray, List.getElem_cons_zero, List.getElem_cons_succ]
 refine wpAnyH_take (i := 13) (v := ?v13) rfl (by kernel_rfl) (by kernel_rfl) (by kernel_rfl) (fun _ _ _ h => h) (Or.inl ⟨by rfl, ?hy13⟩) (by assumption) ?rest13
 case hy13 => (intro w hSw; (try dsimp only at hSw); go_simp; (try with_reducible rfl))
 simp only [Act.put, List.setIfInBounds_toArray, List.set_cons_zero, List.set_cons_succ, List.getElem_toArray, List.getElem_cons_zero, List.getElem_cons_succ]
 refine wpAnyH_take (i := 14) (v := ?v14) rfl (by kernel_rfl) (by kernel_rfl) (by kernel_rfl) (fun _ _ _ h => h) (Or.inl ⟨by rfl, ?hy14⟩) (by assumption) ?rest14
 case hy14 => (intro w hSw; (try dsimp only at hSw); go_simp; (try with_reducible rfl))
 simp only [Act.put, List.setIfInBounds_toArray, List.set_cons_zero, List.set_cons_succ, List.getElem_toArray, List.getElem_cons_zero, List.getElem_cons_succ]
 refine wpAnyH_take (i := 15) (v := ?v15) rfl (by kernel_rfl) (by kernel_rfl) (by kernel_rfl) (fun _ _ _ h => h) (Or.inl ⟨by rfl, ?hy15⟩) (by assumption) ?rest15
 case hy15 => (intro w hSw; (try dsimp only at hSw); go_simp; (try with_reducible rfl))
 simp only [Act.put, List.setIfInBounds_toArray, List.set_cons_zero, List.set_cons_succ, List.getElem_toArray, List.getElem_cons_zero, List.getElem_cons_succ]
 refine wpAnyH_take (i := 16) (v := ?v16) rfl (by kernel_rfl) (by kernel_rfl) (by kernel_rfl) (fun _ _ _ h => h) (Or.inl ⟨by rfl, ?hy16⟩) (by assumption) ?rest16
 case hy16 => (intro w hSw; (try dsimp only at hSw); go_simp; (try with_reducible rfl))
 simp only [Act.put, List.setIfInBounds_toArray, List.set_cons_zero, List.set_cons_succ, List.getElem_toArray, List.getElem_cons_zero, List.getElem_cons_succ]
 refine wpAnyH_take (i := 17) (v := ?v17) rfl (by kernel_rfl) (by kernel_rfl) (by kernel_rfl) (fun _ _ _ h => h) (Or.inl ⟨by rfl, ?hy17⟩) (by assumption) ?rest17
 case hy17 => (intro w hSw; (try dsimp only at hSw); go_simp; (try with_reducible rfl))
 simp only [Act.put, List.setIfInBounds_toArray, List.set_cons_zero, List.set_cons_succ, List.getElem_toArray, List.getElem_cons_zero, List.getElem_cons_succ]
 refine wpAnyH_take (i := 20) (v := ?v20e) rfl (by kernel_rfl) (by kernel_rfl) (by kernel_rfl) (fun _ _ _ h => h) (Or.inl ⟨by rfl, ?hy20e⟩) (by assumption) ?rest20e
 case hy20e => (intro w hSw; (try dsimp only at hSw); go_simp; (try with_reducible rfl))
 simp only [Act.put, List.setIfInBounds_toArray, List.set_cons_zero, List.set_cons_succ, List.getElem_toArray, List.getElem_cons_zero, List.getElem_cons_succ]
 refine wpAnyH_take (i := 21) (v := ?v21e) rfl (by kernel_rfl) (by kernel_rfl) (by kernel_rfl) (fun _ _ _ h => h) (Or.inl ⟨by rfl, ?hy21e⟩) (by assumption) ?rest21e
 case hy21e => (intro w hSw; (try dsimp only at hSw); go_simp; (try with_reducible rfl))
 simp only [Act.put, List.setIfInBounds_toArray, List.set_cons_zero, List.set_cons_succ, List.getElem_toArray, List.getElem_cons_zero, List.getElem_cons_succ]
 refine wpAnyH_ready (rs := [11, 18]) (by kernel_rfl) (by simp) ?_
 refine AllReadyH.cons rfl (fun K hK => ?_) (AllReadyH.cons rfl (fun K hK => ?_) AllReadyH.nil)
 ·go_simp
  refine hK.out _ _ (HK.out _ rfl) (fun hHeld => ?_)
  clear hK K
  try simp only [Act.put, List.setIfInBounds_toArray, List.set_cons_zero, List.set_cons_succ, List.getElem_toArray, List.getElem_cons_zero, List.getElem_cons_succ]
  refine wpAnyH_ready (rs := [18]) (by kernel_rfl) (by simp) ?_
  refine AllReadyH.cons rfl (fun K hK => ?_) AllReadyH.nil
  go_simp
  refine hK.out _ _ (HK.out _ rfl) (fun hHeld => ?_)
  clear hK K
  try simp only [Act.put, List.setIfInBounds_toArray, List.set_cons_zero, List.set_cons_succ, List.getElem_toArray, List.getElem_cons_zero, List.getElem_cons_succ]
  refine wpAnyH_ready (rs := [19]) (by kernel_rfl) (by simp) ?_
  refine AllReadyH.cons rfl (fun K hK => ?_) AllReadyH.nil
  go_simp
  refine (HN.out _).mono ?_
  rintro e5 w5 ⟨rfl, hb5⟩
  have h5 := x_after HST.out hb5
  have h5c := h5.1.cell a ha
  have h5f := h5.1.fz
  obtain ⟨q0, q1⟩ := h5c
  try go_simp
  refine hK.out _ _ (HK.out _ (hb5.block _ hbW)) (fun hHeld => ?_)
  clear hK K
  try simp only [Act.put, List.setIfInBounds_toArray, List.set_cons_zero, List.set_cons_succ, List.getElem_toArray, List.getElem_cons_zero, List.getElem_cons_succ]
  refine wpAnyH_take (i := 22) (v := ?v22p) rfl (by kernel_rfl) (by kernel_rfl) (by kernel_rfl) (fun _ _ _ h => h) (Or.inl ⟨by rfl, ?hy22p⟩) (by assumption) ?rest22p
  case hy22p => (intro w hSw; (try dsimp only at hSw); go_simp; (try with_reducible rfl))
  simp only [Act.put, List.setIfInBounds_toArray, List.set_cons_zero, List.set_cons_succ, List.getElem_toArray, List.getElem_cons_zero, List.getElem_cons_succ]
  refine wpAnyH_ready (rs := [23]) (by kernel_rfl) (by simp) ?_
  refine AllReadyH.cons rfl (fun K hK => ?_) AllReadyH.nil
  go_simp
  refine hK.out _ _ (HK.out _ ((Below.heap_setCell _ _ _ _ hne2).trans ((Below.heap_setCell _ _ _ _ hne2).trans (hb5.block _ hbW)))) (fun hHeld => ?_)
  clear hK K
  try simp only [Act.put, List.setIfInBounds_toArray, List.set_cons_zero, List.set_cons_succ, List.getElem_toArray, List.getElem_cons_zero, List.getElem_cons_succ]
  refine wpAnyH_done (by kernel_rfl) ?_ _
  go_wp2_with fail
  go_end0
  exact ⟨rfl, h5.1.set hln a ha z, ((HLOW.out.trans (h5.2.mono (by omega))).setCell (by simp) _).setCell (by simp) _⟩
 ·go_simp
  refine hK.out _ _ (HK.out _ rfl) (fun hHeld => ?_)
  clear hK K
  try simp only [Act.put, List.setIfInBounds_toArray, List.set_cons_zero, List.set_cons_succ, List.getElem_toArray, List.getElem_cons_zero, List.getElem_cons_succ]
  refine wpAnyH_ready (rs := [11]) (by kernel_rfl) (by simp) ?_
  refine AllReadyH.cons rfl (fun K hK => ?_) AllReadyH.nil
  go_simp
  refine hK.out _ _ (HK.out _ rfl) (fun hHeld => ?_)
  clear hK K
  try simp only [Act.put, List.setIfInBounds_toArray, List.set_cons_zero, List.set_cons_succ, List.getElem_toArray, List.getElem_cons_zero, List.getElem_cons_succ]
  refine wpAnyH_ready (rs := [19]) (by kernel_rfl) (by simp) ?_
  refine AllReadyH.cons rfl (fun K hK => ?_) AllReadyH.nil
  go_simp
  refine (HN.out _).mono ?_
  rintro e5 w5 ⟨rfl, hb5⟩
  have h5 := x_after HST.out hb5
  have h5c := h5.1.cell a ha
  have h5f := h5.1.fz
  obtain ⟨q0, q1⟩ := h5c
  try go_simp
  refine hK.out _ _ (HK.out _ (hb5.block _ hbW)) (fun hHeld => ?_)
  clear hK K
  try simp only [Act.put, List.setIfInBounds_toArray, List.set_cons_zero, List.set_cons_succ, List.getElem_toArray, List.getElem_cons_zero, List.getElem_cons_succ]
  refine wpAnyH_take (i := 22) (v := ?v22q) rfl (by kernel_rfl) (by kernel_rfl) (by kernel_rfl) (fun _ _ _ h => h) (Or.inl ⟨by rfl, ?hy22q⟩) (by assumption) ?rest22q
  case hy22q => (intro w hSw; (try dsimp only at hSw); go_simp; (try with_reducible rfl))
  simp only [Act.put, List.setIfInBounds_toArray, List.set_cons_zero, List.set_cons_succ, List.getElem_toArray, List.getElem_cons_zero, List.getElem_cons_succ]
  refine wpAnyH_ready (rs := [23]) (by kernel_rfl) (by simp) ?_
  refine AllReadyH.cons rfl (fun K hK => ?_) AllReadyH.nil
  go_simp
  refine hK.out _ _ (HK.out _ ((Below.heap_setCell _ _ _ _ hne2).trans ((Below.heap_setCell _ _ _ _ hne2).trans (hb5.block _ hbW)))) (fun hHeld => ?_)
  clear hK K
  try simp only [Act.put, List.setIfInBounds_toArray, List.set_cons_zero, List.set_cons_succ, List.getElem_toArray, List.getElem_cons_zero, List.getElem_cons_succ]
  refine wpAnyH_done (by kernel_rfl) ?_ _
  go_wp2_with fail
  go_end0
  exact ⟨rfl, h5.1.set hln a ha z, ((HLOW.out.trans (h5.2.mono (by omega))).setCell (by simp) _).setCell (by simp) _⟩
end Go.Proofs.YtdgmoiflahoihaaGreatDoor
namespace Go.Proofs.YtdgmoiflahoihaaGreatDoor
open Go.RowKit
set_option linter.unusedSimpArgs false
set_option linter.unusedVariables false
theorem nat_of2 {z : Int} {n : Nat} (h : bel z n = true) : ∃ k : Nat, z = k ∧ k < n := by
 unfold bel at h
 simp at h
 exact ⟨z.toNat, by omega, by omega⟩
theorem do_any (n : Nat) (x : Ic) (b : Nat) (s : XS) (w : World) (fs : List Int) (af : Option Addr) (gf of capf : Nat) (hD : DoOk n fs.length x) (hn : n ≤ 2000) (hS : XAt w b s) (hO : XOk s) (hpc : s.pc ≤ 2000) (hnl : s.notes.length ≤ 100000) (hfl : fs.length ≤ 9223372036854775807) (hF : NumCells w af gf of fs) (hgb : ∀ i, i < fs.length → gf < b) :
  Calls Tryz.prog 99 #[.pointer (some ⟨b, 0, none⟩), icV x, .slice af fs.length capf] w (DoPost w b (stepX x fs s)) := by
 obtain ⟨hfit, h0, hin⟩ := hD
 obtain ⟨o, a, c, d⟩ := x
 simp only at h0 hin
 unfold fitsI at hfit
 simp only [if_neg h0] at hfit
 by_cases h1 : o = 1
 ·subst h1
  simp at hfit
  obtain ⟨ka, rfl, hka⟩ := nat_of2 (n := 100) hfit.1
  exact d_set b s w hS hO hpc fs _ ka c d hka
 rw [if_neg h1] at hfit
 by_cases h2 : o = 2 ∨ o = 3
 ·rw [if_pos h2] at hfit
  simp only [Bool.and_eq_true] at hfit
  obtain ⟨ka, rfl, hka⟩ := nat_of2 (n := 100) hfit.1.1
  obtain ⟨kb, rfl, hkb⟩ := nat_of2 (n := 100) hfit.1.2
  rcases h2 with rfl | rfl
  ·exact d_copy b s w hS hO hpc fs _ ka kb d hka hkb
  ·exact d_neg b s w hS hO hpc fs _ ka kb d hka hkb
 rw [if_neg h2] at hfit
 by_cases h4 : 4 ≤ o ∧ o ≤ 10
 ·rw [if_pos h4] at hfit
  simp only [Bool.and_eq_true] at hfit
  obtain ⟨ka, rfl, hka⟩ := nat_of2 (n := 100) hfit.1.1
  obtain ⟨kb, rfl, hkb⟩ := nat_of2 (n := 100) hfit.1.2
  obtain ⟨kc, rfl, hkc⟩ := nat_of2 (n := 100) hfit.2
  obtain ⟨k, rfl⟩ : ∃ k : Nat, o = (k : Int) + 4 := ⟨(o - 4).toNat, by omega⟩
  exact d_op b s w hS hO hpc fs _ k ka kb kc (by omega) hka hkb hkc
 rw [if_neg h4] at hfit
 by_cases h5 : o = 11
 ·subst h5
  simp only [if_true, Bool.and_eq_true] at hfit
  obtain ⟨ka, rfl, hka⟩ := nat_of2 (n := 100) hfit.1.1
  obtain ⟨kb, rfl, hkb⟩ := nat_of2 (n := 26) hfit.1.2
  have := hin rfl
  exact d_in b s w hS hO hpc fs af gf of capf hF hgb hfl ka kb d hka (by omega)
 rw [if_neg h5] at hfit
 by_cases h6 : o = 12
 ·subst h6
  simp only [if_true, Bool.and_eq_true] at hfit
  obtain ⟨ka, rfl, hka⟩ := nat_of2 (n := n) hfit.1.1
  exact d_jump b s w hS hO hpc fs _ ka c d
 rw [if_neg h6] at hfit
 by_cases h7 : o = 13
 ·subst h7
  simp only [if_true, Bool.and_eq_true] at hfit
  obtain ⟨ka, rfl, hka⟩ := nat_of2 (n := 100) hfit.1.1
  obtain ⟨kb, rfl, hkb⟩ := nat_of2 (n := n) hfit.1.2
  obtain ⟨kc, rfl, hkc⟩ := nat_of2 (n := n) hfit.2
  exact d_when b s w hS hO hpc fs _ ka kb kc hka
 rw [if_neg h7] at hfit
 by_cases h8 : o = 14 ∨ o = 15
 ·rw [if_pos h8] at hfit
  simp only [Bool.and_eq_true] at hfit
  obtain ⟨ka, rfl, hka⟩ := nat_of2 (n := 401) hfit.1.1
  obtain ⟨kb, rfl, hkb⟩ := nat_of2 (n := 16) hfit.1.2
  obtain ⟨kc, rfl, hkc⟩ := nat_of2 (n := 100) hfit.2
  rcases h8 with rfl | rfl
  ·exact d_note14 b s w hS hO hpc fs _ hnl ka kb kc hkc
  ·exact d_note15 b s w hS hO hpc fs _ hnl ka kb kc hkc
 ·rw [if_neg h8] at hfit
  cases hfit
set_option maxRecDepth 100000 in
set_option maxHeartbeats 2000000 in
theorem hasFields_any (l : List Ic) (ao : Option Addr) (g o cap n : Nat) (w : World) (hc : InsCells w ao g o l) (hl : l.length ≤ 2000) :
  Calls Tryz.prog 98 #[.slice ao l.length cap, .int .i64 n] w fun e w' => e = .returned (.bool (hasI l n)) ∧ Below w.heap.size w w' := by
 have HC : Hid (InsCells w ao g o l) := hc
 generalize hR : hasI l n = R
 have HR : Hid (hasI l n = R) := hR
 clear hc hR
 go_enter Tryz.func98, Tryz.ntmps98
 go_wp2_with fail
 go_loopw [9] (fun x w' => ∃ k : Nat, x = .int .i64 k ∧ k ≤ l.length ∧ Hid (Below w.heap.size w w') ∧ Hid (∀ j, ∀ hj : j < l.length, j < k → ¬ (l[j].op = 11 ∧ (n : Int) ≤ l[j].b))) (fun x _ => l.length - (intOf x).toNat)
 case atStart => exact ⟨0, rfl, by omega, Below.refl _ _, fun j hj h => absurd h (by omega)⟩
 case round =>
  obtain ⟨k, rfl, hk, HB, HA⟩ := hrel
  have hsz := HB.out.size
  have HAL : Hid (∀ ob, Below w.heap.size w (wr.alloc ob)) := fun ob => HB.out.alloc hsz ob
  by_cases hlt : k < l.length
  ·have tk : decide ((k : Int) < (l.length : Int)) = true := by simp; omega
   obtain ⟨e0, hg, c0, c1, c2, c3⟩ := HC.out.below HB.out k hlt
   have HS : Hid (¬ (l[k].op = 11 ∧ (n : Int) ≤ l[k].b) → ∀ j, ∀ hj : j < l.length, j < k + 1 → ¬ (l[j].op = 11 ∧ (n : Int) ≤ l[j].b)) := by
    intro hn j hj hjk
    rcases Nat.lt_or_ge j k with h' | h'
    ·exact HA.out j hj h'
    ·have : j = k := by omega
     subst this
     exact hn
   have HF : Hid (l[k].op = 11 → (n : Int) ≤ l[k].b → R = false) := fun h1 h2 => by rw [← HR.out]; exact hasI_bad hlt h1 h2
   generalize l[k] = p at *
   obtain ⟨po, pa, pb, pc⟩ := p
   simp only at c0 c1 c2 c3 HS HF
   subst e0
   by_cases h11 : po = 11
   ·subst h11
    by_cases hb : (n : Int) ≤ pb
    ·have tb : decide ((n : Int) ≤ pb) = true := by simpa using hb
     have HG : Hid _ := HF.out rfl hb
     clear HS HF
     go_wp2_with fail
     rw [HG.out]
     go_ret
     exact ⟨rfl, HAL.out _⟩
    ·have tb : decide ((n : Int) ≤ pb) = false := by simpa using hb
     have HG : Hid _ := HS.out (fun h => hb h.2)
     clear HS HF
     go_wp2_with fail
     go_roundw
     case rel => exact ⟨k + 1, by go_num, by omega, HAL.out _, HG⟩
     case measure => simp [intOf]; omega
   ·have tb : (po == 11) = false := by rw [beq_eq_false_iff_ne]; exact h11
    have HG : Hid _ := HS.out (fun h => h11 h.1)
    clear HS HF
    go_wp2_with fail
    go_roundw
    case rel => exact ⟨k + 1, by go_num, by omega, HAL.out _, HG⟩
    case measure => simp [intOf]; omega
  ·have tk : decide ((k : Int) < (l.length : Int)) = false := by simp; omega
   have hT : R = true := by rw [← HR.out]; exact hasI_all (fun j hj => HA.out j hj (by omega))
   go_wp2_with fail
   rw [hT]
   go_ret
   exact ⟨rfl, HB.out⟩
def st202 : List Value := vlCells regs0 ++ [.slice none 0 0, .int .i64 0]
theorem st202_lit : Tryz.zeroCells172 = st202.toArray := by kernel_rfl
theorem st202_row {W : World} {g : Nat} (hh : W.heap[g]? = some (.cells st202.toArray 172 (0, 0))) : XAt W g x0 := by
 have hl : regs0.length = 100 := by simp [regs0]
 have hcl : (vlCells regs0).length = 200 := by rw [vlCells_len, hl]
 refine ⟨fun k hk => ?_, ⟨.slice none 0 0, ?_, World.ownsRow_nil ..⟩, ?_, fun o => by simp [World.frozen?, hh]⟩
 ·obtain ⟨d0, d1⟩ := vlCells_at regs0 k (by omega)
  have e : x0.regs.getD k vl0 = regs0[k]'(by omega) := by show regs0.getD k vl0 = _; rw [List.getD_eq_getElem?_getD, List.getElem?_eq_getElem (by omega)]; rfl
  rw [e]
  constructor
  ·rw [cell_of_row _ _ _ _ _ _ hh]; simp only [List.getElem?_toArray]; unfold st202; rw [List.getElem?_append_left (by omega)]; exact d0
  ·rw [cell_of_row _ _ _ _ _ _ hh]; simp only [List.getElem?_toArray]; unfold st202; rw [List.getElem?_append_left (by omega)]; exact d1
 ·rw [cell_of_row _ _ _ _ _ _ hh]; simp only [List.getElem?_toArray]; unfold st202; rw [List.getElem?_append_right (by omega), hcl]; rfl
 ·rw [cell_of_row _ _ _ _ _ _ hh]; simp only [List.getElem?_toArray]; unfold st202; rw [List.getElem?_append_right (by omega), hcl]; rfl
theorem st202_at (w : World) : XAt (w.alloc (.cells st202.toArray 172)) w.heap.size x0 := st202_row (heap_alloc_new w _)
structure ProgAt (l : List Ic) (fs : List Int) (w0 : World) (b : Nat) (y : Option (List Nt)) (w : World) (s : XS) (d : Nat) : Prop where
 ok : XOk s
 st : XAt w b s
 low : Below w0.heap.size w0 w
 rest : execF l fs (50000 - d) s = y
 few : s.notes.length ≤ d
 inn : s.pc < l.length
set_option maxRecDepth 100000 in
set_option maxHeartbeats 2000000 in
theorem progExec_bad (l : List Ic) (fs : List Int) (ao af : Option Addr) (g o cap gf of capf : Nat) (w : World) (hc : InsCells w ao g o l) (hf : NumCells w af gf of fs) (hfl : fs.length ≤ 9223372036854775807) (h : (validI l).1 ≠ 0) :
  Calls Tryz.prog 65 #[.slice ao l.length cap, .slice af fs.length capf] w (ExecPost w (execI l fs)) := by
 have HE : Hid (execI l fs = ((validI l).1, [])) := by show _ = _; unfold execI; rw [if_pos h]
 rw [HE.out]
 have HV : Hid (Calls Tryz.prog 89 #[.slice ao l.length cap] w fun e w' => e = .returned (verV (validI l)) ∧ Below w.heap.size w w') := judge_any l ao g o cap w hc
 clear hc hf HE
 generalize validI l = y at *
 obtain ⟨y1, y2⟩ := y
 simp only at HV h ⊢
 have t : (y1 != 0) = true := by simpa using h
 go_enter Tryz.func65, Tryz.ntmps65
 go_upto_region 2 with (go_at_call 89; refine HV.out.mono ?_; rintro e w1 ⟨rfl, hb1⟩)
 have q0 : (w1.alloc (.cells #[.int .i64 y1, .int .i64 y2] 158)).cell? ⟨w1.heap.size, 0, none⟩ = some (.int .i64 y1) := by simp [go_sem]
 have HB : Hid (Below w.heap.size w (w1.alloc (.cells #[.int .i64 y1, .int .i64 y2] 158))) := hb1.alloc hb1.size _
 generalize (w1.alloc (.cells #[.int .i64 y1, .int .i64 y2] 158)) = W at *
 clear hb1
 go_wp2_with fail
 go_region
 all_goals go_wp2_with fail
 all_goals go_ret2
 all_goals exact ⟨⟨_, rfl, fun _ => rfl, World.ownsRow_nil ..⟩, HB.out.drew⟩
set_option maxRecDepth 100000 in
set_option maxHeartbeats 2000000 in
theorem progExec_input (l : List Ic) (fs : List Int) (ao af : Option Addr) (g o cap gf of capf : Nat) (w : World) (hc : InsCells w ao g o l) (hf : NumCells w af gf of fs) (hfl : fs.length ≤ 9223372036854775807) (h : (validI l).1 = 0) (h2 : hasI l fs.length = false) :
  Calls Tryz.prog 65 #[.slice ao l.length cap, .slice af fs.length capf] w (ExecPost w (execI l fs)) := by
 have HE : Hid (execI l fs = (6, [])) := by show _ = _; unfold execI; rw [if_neg (by omega), if_neg (by rw [h2]; decide)]
 rw [HE.out]
 have HV : Hid (Calls Tryz.prog 89 #[.slice ao l.length cap] w fun e w' => e = .returned (verV (validI l)) ∧ Below w.heap.size w w') := judge_any l ao g o cap w hc
 obtain ⟨_, hln, _⟩ := valid_all h
 have HH : Hid (∀ W, Below w.heap.size w W → Calls Tryz.prog 98 #[.slice ao l.length cap, .int .i64 (fs.length : Nat)] W fun e w' => e = .returned (.bool false) ∧ Below W.heap.size W w') := fun W hb => by
  have := hasFields_any l ao g o cap fs.length W (hc.below hb) hln
  rw [h2] at this
  exact this
 clear hc hf HE
 generalize validI l = y at *
 obtain ⟨y1, y2⟩ := y
 simp only at HV h
 subst h
 go_enter Tryz.func65, Tryz.ntmps65
 go_upto_region 2 with (go_at_call 89; refine HV.out.mono ?_; rintro e w1 ⟨rfl, hb1⟩)
 have q0 : (w1.alloc (.cells #[.int .i64 0, .int .i64 y2] 158)).cell? ⟨w1.heap.size, 0, none⟩ = some (.int .i64 0) := by simp [go_sem]
 have HB : Hid (Below w.heap.size w (w1.alloc (.cells #[.int .i64 0, .int .i64 y2] 158))) := hb1.alloc hb1.size _
 generalize (w1.alloc (.cells #[.int .i64 0, .int .i64 y2] 158)) = W at *
 clear hb1
 go_wp2_with (go_at_call 98; refine (HH.out _ HB.out).mono ?_; rintro e w2 ⟨rfl, hb2⟩)
 go_ret2
 exact ⟨⟨_, rfl, fun _ => rfl, World.ownsRow_nil ..⟩, HB.out.trans (hb2.mono HB.out.size)⟩
set_option maxRecDepth 100000 in
set_option maxHeartbeats 4000000 in
theorem progExec_run (l : List Ic) (fs : List Int) (ao af : Option Addr) (g o cap gf of capf : Nat) (w : World) (hc : InsCells w ao g o l) (hf : NumCells w af gf of fs) (hfl : fs.length ≤ 9223372036854775807) (hgb : ∀ i, i < fs.length → gf < w.heap.size) (hlo : ∀ x ∈ l, -9223372036854775808 ≤ x.b ∧ x.b ≤ 9223372036854775807) (hfo : FsOk fs) (h : (validI l).1 = 0) (h2 : hasI l fs.length = true) :
  Calls Tryz.prog 65 #[.slice ao l.length cap, .slice af fs.length capf] w (ExecPost w (execI l fs)) := by
 have hE : execI l fs = (match execF l fs 50000 x0 with | none => (8, []) | some n => (0, n)) := by
  unfold execI
  rw [if_neg (by omega), if_pos h2]
  generalize execF l fs 50000 x0 = Y
  cases Y <;> rfl
 generalize hR : execI l fs = R at *
 obtain ⟨hl0, hln, hall⟩ := valid_all h
 have HALL : Hid (∀ k, ∀ hk : k < l.length, l[k].op ≠ 0 → DoOk l.length fs.length l[k]) := by
  intro k hk h0
  refine ⟨(hall k hk).1, h0, fun h11 => ?_⟩
  have a1 := hasI_at h2 hk h11
  have a2 := (hall k hk).1
  unfold fitsI at a2
  simp [h11, bel] at a2
  omega
 generalize hY : execF l fs 50000 x0 = Y at *
 have HY : Hid (execF l fs (50000 - 0) x0 = Y) := hY
 have HE : Hid _ := hE
 have HV : Hid (Calls Tryz.prog 89 #[.slice ao l.length cap] w fun e w' => e = .returned (verV (validI l)) ∧ Below w.heap.size w w') := judge_any l ao g o cap w hc
 have HH : Hid (∀ W, Below w.heap.size w W → Calls Tryz.prog 98 #[.slice ao l.length cap, .int .i64 (fs.length : Nat)] W fun e w' => e = .returned (.bool true) ∧ Below W.heap.size W w') := fun W hb => by
  have := hasFields_any l ao g o cap fs.length W (hc.below hb) hln
  rw [h2] at this
  exact this
 have HC : Hid (InsCells w ao g o l) := hc
 have HF : Hid (NumCells w af gf of fs) := hf
 have H0 : Hid ((validI l).1 = 0) := h
 have HLO : Hid (∀ x ∈ l, -9223372036854775808 ≤ x.b ∧ x.b ≤ 9223372036854775807) := hlo
 have HFO : Hid (FsOk fs) := hfo
 have HGB : Hid (∀ i, i < fs.length → gf < w.heap.size) := hgb
 have hv0 : validI l = (0, (validI l).2) := by rw [← h]
 rw [hv0] at HV
 generalize hy2 : (validI l).2 = y2 at *
 clear hc hf h2 hy2 hE hY hall hlo hfo hR hgb hv0 h
 go_enter Tryz.func65, Tryz.ntmps65
 go_upto_region 2 with (go_at_call 89; refine HV.out.mono ?_; rintro e w1 ⟨rfl, hb1⟩)
 have q0 : (w1.alloc (.cells #[.int .i64 0, .int .i64 y2] 158)).cell? ⟨w1.heap.size, 0, none⟩ = some (.int .i64 0) := by simp [go_sem]
 have HB : Hid (Below w.heap.size w (w1.alloc (.cells #[.int .i64 0, .int .i64 y2] 158))) := hb1.alloc hb1.size _
 generalize (w1.alloc (.cells #[.int .i64 0, .int .i64 y2] 158)) = W at *
 clear hb1
 go_upto_region 7 with (go_at_call 98; refine (HH.out _ HB.out).mono ?_; rintro e w2 ⟨rfl, hb2⟩)
 rw [st202_lit]
 have hs2 : w.heap.size ≤ w2.heap.size := Nat.le_trans HB.out.size hb2.size
 have HP0 : Hid (ProgAt l fs w w2.heap.size Y (w2.alloc (.cells st202.toArray 172)) x0 0) :=
  ⟨x0_ok, st202_at w2, (HB.out.trans (hb2.mono HB.out.size)).alloc hs2 _, HY.out, by simp [x0], by simp [x0]; omega⟩
 generalize (w2.alloc (.cells st202.toArray 172)) = V at *
 generalize hb : w2.heap.size = b at *
 clear hb2 hb q0
 go_wp2_with fail
 go_loopw [8] (fun x w' => ∃ (s : XS) (k : Nat), x = .int .i64 k ∧ k ≤ 50000 ∧ Hid (ProgAt l fs w b Y w' s k)) (fun x _ => 50000 - (intOf x).toNat)
 case atStart => exact ⟨x0, 0, rfl, by omega, HP0⟩
 case round =>
  obtain ⟨s, k, rfl, hk, HA⟩ := hrel
  clear HP0
  by_cases hlt : k < 50000
  ·have tk : decide ((k : Int) < 50000) = true := by simp; omega
   have hpc := HA.out.inn
   have hpc2 : s.pc ≤ 2000 := by omega
   have hlow := HA.out.low.size
   have hp := HA.out.st.pc
   obtain ⟨v, hv, hown⟩ := HA.out.st.row
   have HOWN : Hid (wr.ownsRow (b + 1) 61 5 v s.notes.length (ntCells s.notes)) := hown
   have hblt := HA.out.st.lt
   clear hown
   obtain ⟨e0, hg, c0, c1, c2, c3⟩ := (HC.out.below HA.out.low) s.pc hpc
   have ip0 : (0 : Int) ≤ (s.pc : Int) := by omega
   have ip1 : (s.pc : Int) < (l.length : Int) := by omega
   have HAL : Hid (∀ ob, Below wr.heap.size wr (wr.alloc ob)) := fun ob => (Below.refl _ _).alloc (Nat.le_refl _) _
   have HEnd : Hid (l[s.pc].op = 0 → Y = some s.notes) := fun h0 => by
    have := HA.out.rest
    rw [execF_end (by omega) hpc h0] at this
    exact this.symm
   have HStep : Hid (∀ V w', l[s.pc].op ≠ 0 → Below w.heap.size w V → XAt w' b (stepX l[s.pc] fs s) → Below b V w' → ProgAt l fs w b Y w' (stepX l[s.pc] fs s) (k + 1)) := fun V w' h0 hb1 hx hb2 => by
    refine ⟨stepX_ok HA.out.ok (HLO.out _ (List.getElem_mem _)) HFO.out, hx, hb1.trans (hb2.mono (by omega)), ?_, ?_, stepX_pc H0.out hpc h0 fs⟩
    ·have := execF_step (fs := fs) (f := 50000 - k) (by omega) hpc h0
     rw [HA.out.rest] at this
     rw [this, show 50000 - k - 1 = 50000 - (k + 1) by omega]
    ·have := stepX_notes l[s.pc] fs s
     have := HA.out.few
     omega
   have HDO : Hid (∀ V, l[s.pc].op ≠ 0 → Below wr.heap.size wr V → Calls Tryz.prog 99 #[.pointer (some ⟨b, 0, none⟩), icV l[s.pc], .slice af fs.length capf] V (DoPost V b (stepX l[s.pc] fs s))) := fun V h0 hb1 =>
    do_any l.length l[s.pc] b s V fs af gf of capf (HALL.out s.pc hpc h0) hln (HA.out.st.keep hb1 (Nat.le_refl _)) HA.out.ok hpc2 (by have := HA.out.few; omega) hfl ((HF.out.below HA.out.low).below hb1) (fun i hi => Nat.lt_of_lt_of_le (HGB.out i hi) hs2)
   generalize l[s.pc] = p at *
   obtain ⟨po, pa, pb, pp⟩ := p
   simp only at c0 c1 c2 c3 HEnd HStep HDO
   subst e0
   by_cases h0 : po = 0
   ·have hR := HE.out
    rw [HEnd.out h0] at hR
    simp only at hR
    subst h0
    clear HEnd HStep HDO HE
    go_wp2_with fail
    rw [hR]
    go_ret2
    exact ⟨⟨v, rfl, fun h => absurd rfl h, own_low (own_base2 HOWN.out (by omega)) (HAL.out _) (Nat.le_refl _)⟩, HA.out.low.trans ((HAL.out _).mono hlow)⟩
   ·have t0 : (po == 0) = false := by rw [beq_eq_false_iff_ne]; exact h0
    clear HEnd HE
    go_wp2_with (go_at_call 99; refine (HDO.out _ h0 (HAL.out _)).mono ?_; rintro e5 w5 ⟨rfl, hx5, hb5⟩)
    have HFIN : Hid _ := HStep.out _ _ h0 (HA.out.low.trans ((HAL.out _).mono hlow)) hx5 hb5
    go_roundw
    case rel => exact ⟨_, k + 1, by go_num, by omega, HFIN⟩
    case measure => simp [intOf]; omega
  ·have tk : decide ((k : Int) < 50000) = false := by simp; omega
   have hR := HE.out
   have hrest := HA.out.rest
   rw [show 50000 - k = 0 by omega] at hrest
   have hYn : Y = none := hrest.symm
   rw [hYn] at hR
   simp only at hR
   clear HE
   go_wp2_with fail
   rw [hR]
   go_ret2
   exact ⟨⟨_, rfl, fun _ => rfl, World.ownsRow_nil ..⟩, HA.out.low⟩
end Go.Proofs.YtdgmoiflahoihaaGreatDoor
namespace Go.Proofs.YtdgmoiflahoihaaGreatDoor
open Go.RowKit
set_option linter.unusedSimpArgs false
set_option linter.unusedVariables false
theorem progExec_any (l : List Ic) (fs : List Int) (ao af : Option Addr) (g o cap gf of capf : Nat) (w : World) (hc : InsCells w ao g o l) (hf : NumCells w af gf of fs) (hfl : fs.length ≤ 9223372036854775807) (hlo : ∀ x ∈ l, -9223372036854775808 ≤ x.b ∧ x.b ≤ 9223372036854775807) (hfo : FsOk fs) :
  Calls Tryz.prog 65 #[.slice ao l.length cap, .slice af fs.length capf] w (ExecPost w (execI l fs)) := by
 by_cases h : (validI l).1 = 0
 ·cases h2 : hasI l fs.length with
  | false => exact progExec_input l fs ao af g o cap gf of capf w hc hf hfl h h2
  | true => exact progExec_run l fs ao af g o cap gf of capf w hc hf hfl (fun i hi => (hf i hi).2.1) hlo hfo h h2
 ·exact progExec_bad l fs ao af g o cap gf of capf w hc hf hfl h
set_option maxHeartbeats 1000000 in
theorem tariffExec_any (l : List Ic) (fs : List Int) (ao af : Option Addr) (g o cap gf of capf : Nat) (w : World) (hc : InsCells w ao g o l) (hf : NumCells w af gf of fs) (hfl : fs.length ≤ 9223372036854775807) (hlo : ∀ x ∈ l, -9223372036854775808 ≤ x.b ∧ x.b ≤ 9223372036854775807) (hfo : FsOk fs) :
  Calls Tryz.prog 40 #[.slice ao l.length cap, .slice af fs.length capf] w (ExecPost w (execI l fs)) := by
 have HH : Hid (Calls Tryz.prog 65 #[.slice ao l.length cap, .slice af fs.length capf] w (ExecPost w (execI l fs))) := progExec_any l fs ao af g o cap gf of capf w hc hf hfl hlo hfo
 generalize execI l fs = R at *
 clear hc hf hlo hfo
 go_enter Tryz.func40, Tryz.ntmps40
 go_wp2_with fail
 refine HH.out.mono ?_
 rintro e w1 ⟨⟨vn, rfl, h1, h2⟩, hb⟩
 go_wp2_with fail
 go_ret2
 exact ⟨⟨vn, rfl, h1, h2⟩, hb⟩
end Go.Proofs.YtdgmoiflahoihaaGreatDoor
namespace Go.Proofs.YtdgmoiflahoihaaGreatDoor
open Go.RowKit
set_option linter.unusedSimpArgs false
set_option linter.unusedVariables false
theorem runP_few (t : List UInt8) (fs : List Int) (hf : FsOk fs) : (runP t fs).2.length ≤ 5000 := by
 unfold runP
 split
 ·simp
 rename_i h0
 split
 ·simp
 have h0' : (checkP t).1 = 0 := by simpa using h0
 obtain ⟨h1, h2, h3, h4, h5⟩ := checkP_ok h0'
 have hp := parse_ok h1 h2
 have hfo := fillV_ok (parseH t).2 fs vals0 hf rfl (fun v hv => by have := List.eq_of_mem_replicate hv; rw [this]; exact vl0_ok)
 have k := (doF_ok 9 (parseR t).2 (fillV (parseH t).2 fs vals0, []) (parse_nums t) hp.tree ⟨hfo.1, hfo.2⟩).2
 simp at k
 show (doF 9 (fillV (parseH t).2 fs vals0, []) (parseR t).2).2.length ≤ 5000
 omega
theorem ints_of_num {w : World} {g cap : Nat} {l : List Int} (h : NumCells w (some ⟨g, 0, none⟩) g 0 l) : IntsAt w (fun k => k < w.heap.size) (.slice (some ⟨g, 0, none⟩) l.length cap) l :=
 ⟨some ⟨g, 0, none⟩, g, cap, rfl, fun i hi => by
  obtain ⟨_, b, c⟩ := h i hi
  rw [Nat.zero_add] at c
  exact ⟨rfl, b, c⟩⟩
theorem progText_any (s : ByteArray) (fs : List Int) (g cap : Nat) (w : World) (hs : s.size ≤ maxLen) (hf : NumCells w (some ⟨g, 0, none⟩) g 0 fs) (hfl : fs.length ≤ maxLen) (hfo : FsOk fs) :
  Calls Tryz.prog 41 #[.string s, .slice (some ⟨g, 0, none⟩) fs.length cap] w (RunPost w (runP s.data.toList fs)) :=
 runText_any s fs _ w (fun k => k < w.heap.size) hs (fun h hb => parse_ok (by simpa using h) hb) (fun _ => parse_nums _) (ints_of_num hf) (fun _ h => h) hfl hfo
end Go.Proofs.YtdgmoiflahoihaaGreatDoor
