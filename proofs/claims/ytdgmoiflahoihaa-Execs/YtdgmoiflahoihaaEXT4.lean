import Derived.Test.YtdgmoiflahoihaaEXT3
import Derived.Deep.RegionHeld3

namespace Go.Proofs.Ytdgmoiflahoihaa
open Go.RowKit
set_option linter.unusedSimpArgs false
set_option linter.unusedVariables false
@[reducible] def signs7 : ByteArray := ⟨#[43, 45, 42, 47, 37, 60, 61]⟩
theorem sign_op (k : Nat) (hk : k < 7) (x y : Vl) : opC (signs7[k]'hk) x y = opV ((k : Int) + 4) x y := by
 match k, hk with
 | 0, _ => rfl
 | 1, _ => rfl
 | 2, _ => rfl
 | 3, _ => rfl
 | 4, _ => rfl
 | 5, _ => rfl
 | 6, _ => rfl
theorem turn_after2 {W w5 : World} {g : Nat} {l : List Vl} (h : RegsAt W g l) (hb : Below W.drew.heap.size W.drew w5) (i : Nat) (hi : i < l.length) :
  w5.cell? ⟨g, i * 2, none⟩ = some (.int .i64 (l.getD i vl0).num) ∧ w5.cell? ⟨g, i * 2 + 1, none⟩ = some (.int .i64 (l.getD i vl0).fault) ∧ ∀ o, w5.frozen? ⟨g, o, none⟩ = false := by
 have k := h.block (w' := w5) (hb.block g h.lt)
 exact ⟨(k.cell i hi).1, (k.cell i hi).2, k.fz⟩
theorem turn_call2 {w W w5 : World} {g : Nat} {l : List Vl} (h : RegsAt w g l) (hB : Below w.heap.size w W) (hb : Below W.drew.heap.size W.drew w5) (i : Nat) (hi : i < l.length) (x : Vl) :
  RegsAt ((w5.setCell ⟨g, i * 2, none⟩ (.int .i64 x.num)).setCell ⟨g, i * 2 + 1, none⟩ (.int .i64 x.fault)) g (l.set i x) ∧ But g w ((w5.setCell ⟨g, i * 2, none⟩ (.int .i64 x.num)).setCell ⟨g, i * 2 + 1, none⟩ (.int .i64 x.fault)) := by
 have hlt := h.lt
 have hb2 : Below w.heap.size w w5 := hB.drew.trans (hb.mono hB.size)
 refine ⟨(h.block (hb2.block g hlt)).set i hi x, ?_⟩
 have h2 : But g w w5 := ⟨hb2.os, hb2.tape, hb2.output, hb2.size, fun k hk _ => hb2.block k hk⟩
 exact (h2.set _ _).set _ _
set_option maxRecDepth 100000 in
set_option maxHeartbeats 8000000 in
theorem t_op (g : Nat) (s : XS) (w : World) (hR : RegsAt w g s.regs) (hO : XOk s) (hpc : s.pc ≤ 2000) (fs : List Int) (af : Option Addr) (gf of capf : Nat) (k a b c : Nat) (hk : k < 7) (ha : a < 100) (hb : b < 100) (hc : c < 100) :
  Calls Try.prog 65 #[icV ⟨(k : Int) + 4, a, b, c⟩, .int .i64 s.pc, .slice (some ⟨g, 0, none⟩) 100 100, .slice af fs.length capf] w (TurnPost w g (stepX ⟨(k : Int) + 4, a, b, c⟩ fs s)) := by
 have HE : Hid (stepX ⟨(k : Int) + 4, a, b, c⟩ fs s = ⟨s.regs.set a (opV ((k : Int) + 4) (s.regs.getD b vl0) (s.regs.getD c vl0)), s.notes, s.pc + 1⟩) := by
  show _ = _
  unfold stepX
  simp only
  rw [if_neg (by omega), if_neg (by omega), if_neg (by omega), if_neg (by omega), if_neg (by omega), if_neg (by omega), if_neg (by omega), if_neg (by omega), give_nat, reg_nat, reg_nat]
 rw [HE.out]
 obtain ⟨d0, d1⟩ := hR.cell b (by rw [hO.len]; exact hb)
 obtain ⟨f0, f1⟩ := hR.cell c (by rw [hO.len]; exact hc)
 have HR : Hid (RegsAt w g s.regs) := hR
 have hal : a < s.regs.length := by rw [hO.len]; exact ha
 have hlt := hR.lt
 have hx : VlOk (s.regs.getD b vl0) := hO.reg (b : Nat)
 have hy : VlOk (s.regs.getD c vl0) := hO.reg (c : Nat)
 generalize s.regs.getD b vl0 = x at *
 generalize s.regs.getD c vl0 = y at *
 have HN : Hid (GivesV 95 #[.int .u8 (signs7[k]'hk).toNat, vlV x, vlV y] (opV ((k : Int) + 4) x y)) := by
  have q := refOp_any (signs7[k]'hk) x y hx hy
  rw [sign_op k hk] at q
  exact q
 generalize hz : opV ((k : Int) + 4) x y = z at *
 obtain ⟨xn, xf⟩ := x
 obtain ⟨yn, yf⟩ := y
 simp only at d0 d1 f0 f1
 have hltW : w.heap.size < (w.alloc (.cells (icCells ⟨(k : Int) + 4, a, b, c⟩) 70)).heap.size := by simp
 have k0 : (w.alloc (.cells (icCells ⟨(k : Int) + 4, a, b, c⟩) 70)).cell? ⟨w.heap.size, 0, none⟩ = some (.int .i64 ((k : Int) + 4)) := by simp [go_sem]
 have k1 : (w.alloc (.cells (icCells ⟨(k : Int) + 4, a, b, c⟩) 70)).cell? ⟨w.heap.size, 1, none⟩ = some (.int .i64 a) := by simp [go_sem]
 have k2 : (w.alloc (.cells (icCells ⟨(k : Int) + 4, a, b, c⟩) 70)).cell? ⟨w.heap.size, 2, none⟩ = some (.int .i64 b) := by simp [go_sem]
 have k3 : (w.alloc (.cells (icCells ⟨(k : Int) + 4, a, b, c⟩) 70)).cell? ⟨w.heap.size, 3, none⟩ = some (.int .i64 c) := by simp [go_sem]
 have hB : Below w.heap.size w (w.alloc (.cells (icCells ⟨(k : Int) + 4, a, b, c⟩) 70)) := (Below.refl _ _).alloc (Nat.le_refl _) _
 have e1 : ((k : Int) + 4 == 12) = false := by rw [beq_eq_false_iff_ne]; omega
 have e2 : ((k : Int) + 4 == 13) = false := by rw [beq_eq_false_iff_ne]; omega
 have e3 : ((k : Int) + 4 == 1) = false := by rw [beq_eq_false_iff_ne]; omega
 have e4 : ((k : Int) + 4 == 2) = false := by rw [beq_eq_false_iff_ne]; omega
 have e5 : ((k : Int) + 4 == 3) = false := by rw [beq_eq_false_iff_ne]; omega
 have e6 : ((k : Int) + 4 == 11) = false := by rw [beq_eq_false_iff_ne]; omega
 have e7 : ((k : Int) + 4 == 14) = false := by rw [beq_eq_false_iff_ne]; omega
 have e8 : ((k : Int) + 4 == 15) = false := by rw [beq_eq_false_iff_ne]; omega
 have ik0 : (0 : Int) ≤ (k : Int) := by omega
 have ik1 : (k : Int) < 7 := by omega
 have ia0 : (0 : Int) ≤ (a : Int) := by omega
 have ia1 : (a : Int) < 100 := by omega
 have ib0 : (0 : Int) ≤ (b : Int) := by omega
 have ib1 : (b : Int) < 100 := by omega
 have ic0 : (0 : Int) ≤ (c : Int) := by omega
 have ic1 : (c : Int) < 100 := by omega
 have hne : ¬ g = w.heap.size := by omega
 have hne2 : w.heap.size ≠ g := by omega
 rw [← hB.cell (p := ⟨g, _, none⟩) hlt] at d0 d1 f0 f1
 clear hR hO HE hx hz hy
 go_enter Try.func65, Try.ntmps65
 go_upto_region 2 with fail
 generalize (w.alloc (.cells (icCells ⟨(k : Int) + 4, a, b, c⟩) 70)) = W at *
 have HRW : Hid (RegsAt W g s.regs) := HR.out.block (hB.block g hlt)
 have HB : Hid (Below w.heap.size w W) := hB
 have HK : Hid (∀ V : World, V.heap[w.heap.size]? = W.heap[w.heap.size]? → V.cell? ⟨w.heap.size, 0, none⟩ = some (.int .i64 ((k : Int) + 4)) ∧ V.cell? ⟨w.heap.size, 1, none⟩ = some (.int .i64 a) ∧ V.cell? ⟨w.heap.size, 2, none⟩ = some (.int .i64 b) ∧ V.cell? ⟨w.heap.size, 3, none⟩ = some (.int .i64 c)) := fun V e => ⟨(World.cell?_of_block (a := ⟨w.heap.size, 0, none⟩) e).trans k0, (World.cell?_of_block (a := ⟨w.heap.size, 1, none⟩) e).trans k1, (World.cell?_of_block (a := ⟨w.heap.size, 2, none⟩) e).trans k2, (World.cell?_of_block (a := ⟨w.heap.size, 3, none⟩) e).trans k3⟩
 have hgW : g < W.heap.size := by have := hB.size; omega
 clear hB k0 k1 k2 k3
 have hwk : IntKind.i64.wrap (k : Int) = k := by rw [IntKind.wrap_i64]; omega
 refine wp_region_held_drew (S := fun w' => w'.cell? ⟨w.heap.size, 0, none⟩ = some (.int .i64 ((k : Int) + 4)) ∧ w'.cell? ⟨w.heap.size, 1, none⟩ = some (.int .i64 a) ∧ w'.cell? ⟨w.heap.size, 2, none⟩ = some (.int .i64 b) ∧ w'.cell? ⟨w.heap.size, 3, none⟩ = some (.int .i64 c)) (by kernel_rfl) (HK.out _ rfl) (fun hHeld => ?_)
 refine wpAnyH_take (i := 0) (v := ?v0) rfl (by kernel_rfl) (by kernel_rfl) (by kernel_rfl) (fun _ _ _ h => h) (Or.inl ⟨by rfl, ?hy0⟩) (by assumption) ?rest0
 case hy0 => (intro w hSw; (try dsimp only at hSw); go_simp; (try with_reducible rfl))
 simp only [Act.put, List.setIfInBounds_toArray, List.set_cons_zero, List.set_cons_succ, List.getElem_toArray, List.getElem_cons_zero, List.getElem_cons_succ]
 refine wpAnyH_take (i := 1) (v := ?v1) rfl (by kernel_rfl) (by kernel_rfl) (by kernel_rfl) (fun _ _ _ h => h) (Or.inl ⟨by rfl, ?hy1⟩) (by assumption) ?rest1
 case hy1 => (intro w hSw; (try dsimp only at hSw); go_simp; (try with_reducible rfl))
 simp only [Act.put, List.setIfInBounds_toArray, List.set_cons_zero, List.set_cons_succ, List.getElem_toArray, List.getElem_cons_zero, List.getElem_cons_succ]
 refine wpAnyH_take (i := 2) (v := ?v2) rfl (by kernel_rfl) (by kernel_rfl) (by kernel_rfl) (fun _ _ _ h => h) (Or.inl ⟨by rfl, ?hy2⟩) (by assumption) ?rest2
 case hy2 => (intro w hSw; (try dsimp only at hSw); go_simp; (try with_reducible rfl))
 simp only [Act.put, List.setIfInBounds_toArray, List.set_cons_zero, List.set_cons_succ, List.getElem_toArray, List.getElem_cons_zero, List.getElem_cons_succ]
 refine wpAnyH_take (i := 3) (v := ?v3) rfl (by kernel_rfl) (by kernel_rfl) (by kernel_rfl) (fun _ _ _ h => h) (Or.inl ⟨by rfl, ?hy3⟩) (by assumption) ?rest3
 case hy3 => (intro w hSw; (try dsimp only at hSw); go_simp; (try with_reducible rfl))
 simp only [Act.put, List.setIfInBounds_toArray, List.set_cons_zero, List.set_cons_succ, List.getElem_toArray, List.getElem_cons_zero, List.getElem_cons_succ]
 refine wpAnyH_take (i := 4) (v := ?v4) rfl (by kernel_rfl) (by kernel_rfl) (by kernel_rfl) (fun _ _ _ h => h) (Or.inl ⟨by rfl, ?hy4⟩) (by assumption) ?rest4
 case hy4 => (intro w hSw; (try dsimp only at hSw); go_simp; (try with_reducible rfl))
 simp only [Act.put, List.setIfInBounds_toArray, List.set_cons_zero, List.set_cons_succ, List.getElem_toArray, List.getElem_cons_zero, List.getElem_cons_succ]
 refine wpAnyH_take (i := 5) (v := ?v5) rfl (by kernel_rfl) (by kernel_rfl) (by kernel_rfl) (fun _ _ _ h => h) (Or.inl ⟨by rfl, ?hy5⟩) (by assumption) ?rest5
 case hy5 => (intro w hSw; (try dsimp only at hSw); go_simp; (try with_reducible rfl))
 simp only [Act.put, List.setIfInBounds_toArray, List.set_cons_zero, List.set_cons_succ, List.getElem_toArray, List.getElem_cons_zero, List.getElem_cons_succ]
 refine wpAnyH_take (i := 6) (v := ?v6) rfl (by kernel_rfl) (by kernel_rfl) (by kernel_rfl) (fun _ _ _ h => h) (Or.inl ⟨by rfl, ?hy6⟩) (by assumption) ?rest6
 case hy6 => (intro w hSw; (try dsimp only at hSw); go_simp; rfl)
 simp only [Act.put, List.setIfInBounds_toArray, List.set_cons_zero, List.set_cons_succ, List.getElem_toArray, List.getElem_cons_zero, List.getElem_cons_succ]
 refine wpAnyH_take (i := 7) (v := ?v7) rfl (by kernel_rfl) (by kernel_rfl) (by kernel_rfl) (fun _ _ _ h => h) (Or.inl ⟨by rfl, ?hy7⟩) (by assumption) ?rest7
 case hy7 => (intro w hSw; (try dsimp only at hSw); go_simp; (try with_reducible rfl))
 simp only [Act.put, List.setIfInBounds_toArray, List.set_cons_zero, List.set_cons_succ, List.getElem_toArray, List.getElem_cons_zero, List.getElem_cons_succ]
 refine wpAnyH_take (i := 8) (v := ?v8) rfl (by kernel_rfl) (by kernel_rfl) (by kernel_rfl) (fun _ _ _ h => h) (Or.inl ⟨by rfl, ?hy8⟩) (by assumption) ?rest8
 case hy8 => (intro w hSw; (try dsimp only at hSw); go_simp; (try with_reducible rfl))
 simp only [Act.put, List.setIfInBounds_toArray, List.set_cons_zero, List.set_cons_succ, List.getElem_toArray, List.getElem_cons_zero, List.getElem_cons_succ]
 refine wpAnyH_take (i := 9) (v := ?v9) rfl (by kernel_rfl) (by kernel_rfl) (by kernel_rfl) (fun _ _ _ h => h) (Or.inl ⟨by rfl, ?hy9⟩) (by assumption) ?rest9
 case hy9 => (intro w hSw; (try dsimp only at hSw); go_simp; (try with_reducible rfl))
 simp only [Act.put, List.setIfInBounds_toArray, List.set_cons_zero, List.set_cons_succ, List.getElem_toArray, List.getElem_cons_zero, List.getElem_cons_succ]
 refine wpAnyH_take (i := 10) (v := ?v10) rfl (by kernel_rfl) (by kernel_rfl) (by kernel_rfl) (fun _ _ _ h => h) (Or.inl ⟨by rfl, ?hy10⟩) (by assumption) ?rest10
 case hy10 => (intro w hSw; (try dsimp only at hSw); go_simp; (try with_reducible rfl))
 simp only [Act.put, List.setIfInBounds_toArray, List.set_cons_zero, List.set_cons_succ, List.getElem_toArray, List.getElem_cons_zero, List.getElem_cons_succ]
 refine wpAnyH_take (i := 12) (v := ?v12) rfl (by kernel_rfl) (by kernel_rfl) (by kernel_rfl) (fun _ _ _ h => h) (Or.inl ⟨by rfl, ?hy12⟩) (by assumption) ?rest12
 case hy12 => (intro w hSw; (try dsimp only at hSw); go_simp; (try with_reducible rfl))
 simp only [Act.put, List.setIfInBounds_toArray, List.set_cons_zero, List.set_cons_succ, List.getElem_toArray, List.getElem_cons_zero, List.getElem_cons_succ]
 refine wpAnyH_take (i := 13) (v := ?v13) rfl (by kernel_rfl) (by kernel_rfl) (by kernel_rfl) (fun _ _ _ h => h) (Or.inl ⟨by rfl, ?hy13⟩) (by assumption) ?rest13
 case hy13 => (intro w hSw; (try dsimp only at hSw); go_simp; (try with_reducible rfl))
 simp only [Act.put, List.setIfInBounds_toArray, List.set_cons_zero, List.set_cons_succ, List.getElem_toArray, List.getElem_cons_zero, List.getElem_cons_succ]
 refine wpAnyH_take (i := 14) (v := ?v14) rfl (by kernel_rfl) (by kernel_rfl) (by kernel_rfl) (fun _ _ _ h => h) (Or.inl ⟨by rfl, ?hy14⟩) (by assumption) ?rest14
 case hy14 => (intro w hSw; (try dsimp only at hSw); go_simp; (try with_reducible rfl))
 simp only [Act.put, List.setIfInBounds_toArray, List.set_cons_zero, List.set_cons_succ, List.getElem_toArray, List.getElem_cons_zero, List.getElem_cons_succ]
 refine wpAnyH_take (i := 15) (v := ?v15) rfl (by kernel_rfl) (by kernel_rfl) (by kernel_rfl) (fun _ _ _ h => h) (Or.inl ⟨by rfl, ?hy15⟩) (by assumption) ?rest15
 case hy15 => (intro w hSw; (try dsimp only at hSw); go_simp; (try with_reducible rfl))
 simp only [Act.put, List.setIfInBounds_toArray, List.set_cons_zero, List.set_cons_succ, List.getElem_toArray, List.getElem_cons_zero, List.getElem_cons_succ]
 refine wpAnyH_ready (rs := [11, 16]) (by kernel_rfl) (by simp) ?_
 refine AllReadyH.cons rfl (fun K hK => ?_) (AllReadyH.cons rfl (fun K hK => ?_) AllReadyH.nil)
 ·go_simp
  refine hK.out _ _ (HK.out _ rfl) (fun hHeld => ?_)
  clear hK K
  try simp only [Act.put, List.setIfInBounds_toArray, List.set_cons_zero, List.set_cons_succ, List.getElem_toArray, List.getElem_cons_zero, List.getElem_cons_succ]
  refine wpAnyH_ready (rs := [16]) (by kernel_rfl) (by simp) ?_
  refine AllReadyH.cons rfl (fun K hK => ?_) AllReadyH.nil
  go_simp
  refine hK.out _ _ (HK.out _ rfl) (fun hHeld => ?_)
  clear hK K
  try simp only [Act.put, List.setIfInBounds_toArray, List.set_cons_zero, List.set_cons_succ, List.getElem_toArray, List.getElem_cons_zero, List.getElem_cons_succ]
  refine wpAnyH_ready (rs := [17]) (by kernel_rfl) (by simp) ?_
  refine AllReadyH.cons rfl (fun K hK => ?_) AllReadyH.nil
  go_simp
  refine (HN.out _).mono ?_
  rintro e5 w5 ⟨rfl, hb5⟩
  obtain ⟨c0, c1, fz⟩ := turn_after2 HRW.out hb5 a hal
  try go_simp
  refine hK.out _ _ (HK.out _ (hb5.block _ hltW)) (fun hHeld => ?_)
  clear hK K
  try simp only [Act.put, List.setIfInBounds_toArray, List.set_cons_zero, List.set_cons_succ, List.getElem_toArray, List.getElem_cons_zero, List.getElem_cons_succ]
  refine wpAnyH_take (i := 18) (v := ?v18a) rfl (by kernel_rfl) (by kernel_rfl) (by kernel_rfl) (fun _ _ _ h => h) (Or.inl ⟨by rfl, ?hy18a⟩) (by assumption) ?rest18a
  case hy18a => (intro w hSw; (try dsimp only at hSw); go_simp; (try with_reducible rfl))
  simp only [Act.put, List.setIfInBounds_toArray, List.set_cons_zero, List.set_cons_succ, List.getElem_toArray, List.getElem_cons_zero, List.getElem_cons_succ]
  refine wpAnyH_ready (rs := [19]) (by kernel_rfl) (by simp) ?_
  refine AllReadyH.cons rfl (fun K hK => ?_) AllReadyH.nil
  go_simp
  refine hK.out _ _ (HK.out _ ((Below.heap_setCell _ _ _ _ hne2).trans ((Below.heap_setCell _ _ _ _ hne2).trans (hb5.block _ hltW)))) (fun hHeld => ?_)
  clear hK K
  try simp only [Act.put, List.setIfInBounds_toArray, List.set_cons_zero, List.set_cons_succ, List.getElem_toArray, List.getElem_cons_zero, List.getElem_cons_succ]
  refine wpAnyH_done (by kernel_rfl) ?_ _
  go_wp2_with fail
  go_ret
  exact ⟨rfl, turn_call2 HR.out HB.out hb5 a hal z⟩
 ·go_simp
  refine hK.out _ _ (HK.out _ rfl) (fun hHeld => ?_)
  clear hK K
  try simp only [Act.put, List.setIfInBounds_toArray, List.set_cons_zero, List.set_cons_succ, List.getElem_toArray, List.getElem_cons_zero, List.getElem_cons_succ]
  refine wpAnyH_ready (rs := [11]) (by kernel_rfl) (by simp) ?_
  refine AllReadyH.cons rfl (fun K hK => ?_) AllReadyH.nil
  go_simp
  refine hK.out _ _ (HK.out _ rfl) (fun hHeld => ?_)
  clear hK K
  try simp only [Act.put, List.setIfInBounds_toArray, List.set_cons_zero, List.set_cons_succ, List.getElem_toArray, List.getElem_cons_zero, List.getElem_cons_succ]
  refine wpAnyH_ready (rs := [17]) (by kernel_rfl) (by simp) ?_
  refine AllReadyH.cons rfl (fun K hK => ?_) AllReadyH.nil
  go_simp
  refine (HN.out _).mono ?_
  rintro e5 w5 ⟨rfl, hb5⟩
  obtain ⟨c0, c1, fz⟩ := turn_after2 HRW.out hb5 a hal
  try go_simp
  refine hK.out _ _ (HK.out _ (hb5.block _ hltW)) (fun hHeld => ?_)
  clear hK K
  try simp only [Act.put, List.setIfInBounds_toArray, List.set_cons_zero, List.set_cons_succ, List.getElem_toArray, List.getElem_cons_zero, List.getElem_cons_succ]
  refine wpAnyH_take (i := 18) (v := ?v18b) rfl (by kernel_rfl) (by kernel_rfl) (by kernel_rfl) (fun _ _ _ h => h) (Or.inl ⟨by rfl, ?hy18b⟩) (by assumption) ?rest18b
  case hy18b => (intro w hSw; (try dsimp only at hSw); go_simp; (try with_reducible rfl))
  simp only [Act.put, List.setIfInBounds_toArray, List.set_cons_zero, List.set_cons_succ, List.getElem_toArray, List.getElem_cons_zero, List.getElem_cons_succ]
  refine wpAnyH_ready (rs := [19]) (by kernel_rfl) (by simp) ?_
  refine AllReadyH.cons rfl (fun K hK => ?_) AllReadyH.nil
  go_simp
  refine hK.out _ _ (HK.out _ ((Below.heap_setCell _ _ _ _ hne2).trans ((Below.heap_setCell _ _ _ _ hne2).trans (hb5.block _ hltW)))) (fun hHeld => ?_)
  clear hK K
  try simp only [Act.put, List.setIfInBounds_toArray, List.set_cons_zero, List.set_cons_succ, List.getElem_toArray, List.getElem_cons_zero, List.getElem_cons_succ]
  refine wpAnyH_done (by kernel_rfl) ?_ _
  go_wp2_with fail
  go_ret
  exact ⟨rfl, turn_call2 HR.out HB.out hb5 a hal z⟩
end Go.Proofs.Ytdgmoiflahoihaa
