import Derived.Test.YtdgmoiflahoihaaGreatRAV2

namespace Go.Proofs.YtdgmoiflahoihaaGreat
open Go.RowKit
set_option linter.unusedSimpArgs false
set_option linter.unusedVariables false


set_option maxRecDepth 100000 in
set_option maxHeartbeats 4000000 in
theorem v_split {b gw : Nat} {C : List UInt8} {A : List Int} {names : List Vl} {lo hi k : Nat} {x y : Vl} {c : UInt8} (hl : lo < hi) (hh : hi ≤ C.length) (hs : splitC C lo hi = (k : Int)) (hk0 : lo ≤ k) (hk1 : k < hi) (hc : C[k]? = some c) (hx : ValGives b gw C A names lo k x) (hy : ValGives b gw C A names (k + 1) hi y) (hxo : VlOk x) (hyo : VlOk y) : ValGives b gw C A names lo hi (opC c x y) := by
  have HN : Hid (GivesV 50 #[.int .u8 c.toNat, vlV x, vlV y] (opC c x y)) := refOp_any c x y hxo hyo
  generalize opC c x y = z at *
  obtain ⟨zn, zf⟩ := z
  intro w hB hV
  have hlt := World.block_lt_of_cell? w _ (show w.cell? ⟨b, 0, none⟩ = _ from hB.here.choose_spec.choose_spec.choose_spec.choose_spec.choose_spec.choose_spec.1)
  have hgl := hV.lt
  have hBb : Below w.heap.size w (w.alloc (.cells #[.int .i64 0, .int .i64 0] 47)) := (Below.refl _ _).alloc (Nat.le_refl _) _
  have hRes : ResAt (w.alloc (.cells #[.int .i64 0, .int .i64 0] 47)) w.heap.size := ⟨by simp [go_sem], by simp [go_sem], fun o => by simp [go_sem]⟩
  have hsz : (w.alloc (.cells #[.int .i64 0, .int .i64 0] 47)).heap.size = w.heap.size + 1 := by simp
  have hBW := hB.below hBb
  have hVW := hV.below hBb
  obtain ⟨hC, hA, ac, aa, bc, ba, capc, capa, h0, h1, hcc, ha⟩ := hB
  clear hV
  go_enter Tryz.func39, Tryz.ntmps39
  go_upto_region 1 with fail
  generalize (w.alloc (.cells #[.int .i64 0, .int .i64 0] 47)) = W at *
  have HBW : Hid (BookAt W b C A) := hBW
  have HVW : Hid (ValsAt W gw names) := hVW
  have HBb : Hid (Below w.heap.size w W) := hBb
  have HRes : Hid (ResAt W w.heap.size) := hRes
  have HSP : Hid (Calls Tryz.prog 60 #[.pointer (some ⟨b, 0, none⟩), .int .i64 lo, .int .i64 hi] W fun e w' => e = .returned (.int .i64 (splitC C lo hi)) ∧ w' = W) := split_any b lo hi C A W hBW (by omega) hh
  rw [hs] at HSP
  obtain ⟨rfl, hck⟩ := hcc k (by omega)
  have e : C[k]'(by omega) = c := (List.getElem?_eq_some_iff.mp hc).2
  rw [e] at hck
  have hbc : bc < w.heap.size := World.block_lt_of_cell? w _ hck
  have tk : decide ((0 : Int) ≤ (k : Int)) = true := by simp
  have HX : Hid (Calls Tryz.prog 39 #[.pointer (some ⟨b, 0, none⟩), .pointer (some ⟨gw, 0, none⟩), .int .i64 lo, .int .i64 k] W fun e w' => e = .returned (vlV x) ∧ Below W.heap.size W w') := hx W HBW.out HVW.out
  have HYY : Hid (∀ V, Below W.heap.size W V → Calls Tryz.prog 39 #[.pointer (some ⟨b, 0, none⟩), .pointer (some ⟨gw, 0, none⟩), .int .i64 ((k : Int) + 1), .int .i64 hi] V fun e w' => e = .returned (vlV y) ∧ Below V.heap.size V w') := fun V hb => by
    have q := hy V (HBW.out.below hb) (HVW.out.below hb)
    rw [show ((k + 1 : Nat) : Int) = (k : Int) + 1 by omega] at q
    exact q
  clear hcc ha hRes hBb hVW e hs hc hx hy hxo hyo h1 hBW
  obtain ⟨xn, xf⟩ := x
  obtain ⟨yn, yf⟩ := y
  go_upto_region 4 with (first | (go_at_call 60; refine HSP.out.mono ?_; rintro e1 w1 ⟨rfl, hw1⟩; rw [hw1]; clear hw1) | (go_at_call 39; refine HX.out.mono ?_; rintro e2 w2 ⟨rfl, hb2⟩; have HB2 : Hid (Below W.heap.size W w2) := hb2; clear hb2))
  have hB3 : Below W.heap.size W (w2.alloc (.cells #[.int .i64 xn, .int .i64 xf] 47)) := HB2.out.alloc HB2.out.size _
  have g0 : (w2.alloc (.cells #[.int .i64 xn, .int .i64 xf] 47)).cell? ⟨w2.heap.size, 0, none⟩ = some (.int .i64 xn) := by simp [go_sem]
  have g1 : (w2.alloc (.cells #[.int .i64 xn, .int .i64 xf] 47)).cell? ⟨w2.heap.size, 1, none⟩ = some (.int .i64 xf) := by simp [go_sem]
  have hs3 : (w2.alloc (.cells #[.int .i64 xn, .int .i64 xf] 47)).heap.size = w2.heap.size + 1 := by simp
  have hs2 : W.heap.size ≤ w2.heap.size := HB2.out.size
  generalize (w2.alloc (.cells #[.int .i64 xn, .int .i64 xf] 47)) = W3 at *
  generalize hgx : w2.heap.size = gx at *
  have HB3 : Hid (Below W.heap.size W W3) := hB3
  clear hB3 HB2 hgx
  go_upto_region 5 with (go_at_call 39; refine (HYY.out _ HB3.out).mono ?_; rintro e4 w4 ⟨rfl, hb4⟩; have HB4 : Hid (Below W3.heap.size W3 w4) := hb4; clear hb4)
  have hs4 : W3.heap.size ≤ w4.heap.size := HB4.out.size
  have hB5 : Below W3.heap.size W3 (w4.alloc (.cells #[.int .i64 yn, .int .i64 yf] 47)) := HB4.out.alloc hs4 _
  have y0 : (w4.alloc (.cells #[.int .i64 yn, .int .i64 yf] 47)).cell? ⟨w4.heap.size, 0, none⟩ = some (.int .i64 yn) := by simp [go_sem]
  have y1 : (w4.alloc (.cells #[.int .i64 yn, .int .i64 yf] 47)).cell? ⟨w4.heap.size, 1, none⟩ = some (.int .i64 yf) := by simp [go_sem]
  have hs5 : (w4.alloc (.cells #[.int .i64 yn, .int .i64 yf] 47)).heap.size = w4.heap.size + 1 := by simp
  generalize (w4.alloc (.cells #[.int .i64 yn, .int .i64 yf] 47)) = W5 at *
  generalize hgy : w4.heap.size = gy at *
  rw [← hB5.cell (p := (⟨gx, 0, none⟩ : Addr)) (by simp only; omega)] at g0
  rw [← hB5.cell (p := (⟨gx, 1, none⟩ : Addr)) (by simp only; omega)] at g1
  have hBall : Below w.heap.size w W5 := (HBb.out.trans (HB3.out.mono (by omega))).trans (hB5.mono (by omega))
  have p0 := (hBall.cell (p := (⟨b, 0, none⟩ : Addr)) hlt).trans h0
  have p1 := (hBall.cell (p := (⟨bc, k, none⟩ : Addr)) hbc).trans hck
  have HRes5 : Hid (ResAt W5 w.heap.size) := (HRes.out.of_block (HB3.out.block _ (by omega))).of_block (hB5.block _ (by omega))
  have HBA : Hid (Below w.heap.size w W5) := hBall
  have HK : Hid (∀ V : World, V.heap[b]? = W5.heap[b]? → V.heap[bc]? = W5.heap[bc]? → V.heap[gx]? = W5.heap[gx]? → V.heap[gy]? = W5.heap[gy]? → V.cell? ⟨b, 0, none⟩ = some (.slice (some ⟨bc, 0, none⟩) C.length capc) ∧ V.cell? ⟨bc, k, none⟩ = some (.int .u8 c.toNat) ∧ V.cell? ⟨gx, 0, none⟩ = some (.int .i64 xn) ∧ V.cell? ⟨gx, 1, none⟩ = some (.int .i64 xf) ∧ V.cell? ⟨gy, 0, none⟩ = some (.int .i64 yn) ∧ V.cell? ⟨gy, 1, none⟩ = some (.int .i64 yf)) := fun V e1 e2 e3 e4 => ⟨(World.cell?_of_block (a := ⟨b, 0, none⟩) e1).trans p0, (World.cell?_of_block (a := ⟨bc, k, none⟩) e2).trans p1, (World.cell?_of_block (a := ⟨gx, 0, none⟩) e3).trans g0, (World.cell?_of_block (a := ⟨gx, 1, none⟩) e3).trans g1, (World.cell?_of_block (a := ⟨gy, 0, none⟩) e4).trans y0, (World.cell?_of_block (a := ⟨gy, 1, none⟩) e4).trans y1⟩
  have l1 : b < W5.heap.size := by omega
  have l2 : bc < W5.heap.size := by omega
  have l3 : gx < W5.heap.size := by omega
  have l4 : gy < W5.heap.size := by omega
  have n1 : b ≠ w.heap.size := by omega
  have n2 : bc ≠ w.heap.size := by omega
  have n3 : gx ≠ w.heap.size := by omega
  have n4 : gy ≠ w.heap.size := by omega
  have ik0 : (0 : Int) ≤ (k : Int) := by omega
  have ik1 : (k : Int) < (C.length : Int) := by omega
  have l5 : w.heap.size < W5.heap.size := by omega
  clear hB5 hBall HB4 HB3 HBb HRes g0 g1 y0 y1 p0 p1 hck h0 HX HYY HSP HBW HVW hs2 hs3 hs4 hs5 hsz hgy
  go_region_held3 (fun w' => w'.cell? ⟨b, 0, none⟩ = some (.slice (some ⟨bc, 0, none⟩) C.length capc) ∧ w'.cell? ⟨bc, k, none⟩ = some (.int .u8 c.toNat) ∧ w'.cell? ⟨gx, 0, none⟩ = some (.int .i64 xn) ∧ w'.cell? ⟨gx, 1, none⟩ = some (.int .i64 xf) ∧ w'.cell? ⟨gy, 0, none⟩ = some (.int .i64 yn) ∧ w'.cell? ⟨gy, 1, none⟩ = some (.int .i64 yf)) (first | exact HK.out _ rfl rfl rfl rfl | exact HK.out _ (hb5.block _ l1) (hb5.block _ l2) (hb5.block _ l3) (hb5.block _ l4) | exact HK.out _ ((Below.heap_setCell _ _ _ _ n1).trans ((Below.heap_setCell _ _ _ _ n1).trans (hb5.block _ l1))) ((Below.heap_setCell _ _ _ _ n2).trans ((Below.heap_setCell _ _ _ _ n2).trans (hb5.block _ l2))) ((Below.heap_setCell _ _ _ _ n3).trans ((Below.heap_setCell _ _ _ _ n3).trans (hb5.block _ l3))) ((Below.heap_setCell _ _ _ _ n4).trans ((Below.heap_setCell _ _ _ _ n4).trans (hb5.block _ l4)))) ((go_at_call 50; refine (HN.out _).mono ?_; rintro e5 w5 ⟨rfl, hb5⟩; obtain ⟨s0, s1, sf⟩ := HRes5.out.of_block (w' := w5) (hb5.block _ l5)))
  all_goals go_wp2_with fail
  all_goals refine bodyPost_ret (v := vlV ⟨zn, zf⟩) (by simp [results, Tryz.results39, go_sem, s0, s1, sf]) rfl ⟨rfl, ?_⟩
  all_goals exact ((HBA.out.drew.trans (hb5.mono (by simp only [World.drew]; omega))).setCell (by simp) _).setCell (by simp) _

end Go.Proofs.YtdgmoiflahoihaaGreat
