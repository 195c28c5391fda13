import Derived.Test.YtdgmoiflahoihaaGreatRAV

namespace Go.Proofs.YtdgmoiflahoihaaGreat
open Go.RowKit
set_option linter.unusedSimpArgs false
set_option linter.unusedVariables false


set_option maxRecDepth 100000 in
set_option maxHeartbeats 2000000 in
theorem v_neg {b gw : Nat} {C : List UInt8} {A : List Int} {names : List Vl} {lo hi : Nat} {v : Vl} (hl : lo < hi) (hh : hi ≤ C.length) (hs : splitC C lo hi = -1) (hc : C[lo]? = some 45) (hv : ValGives b gw C A names (lo + 1) hi v) (hok : VlOk v) : ValGives b gw C A names lo hi (opC 45 ⟨0, 0⟩ v) := by
  have HN : Hid (GivesV 50 #[.int .u8 45, vlV ⟨0, 0⟩, vlV v] (opC 45 ⟨0, 0⟩ v)) := refOp_any 45 ⟨0, 0⟩ v ⟨by simp, by simp, by simp⟩ hok
  generalize opC 45 ⟨0, 0⟩ v = z at *
  obtain ⟨zn, zf⟩ := z
  intro w hB hV
  have hlt := World.block_lt_of_cell? w _ (show w.cell? ⟨b, 0, none⟩ = _ from hB.here.choose_spec.choose_spec.choose_spec.choose_spec.choose_spec.choose_spec.1)
  have hgl := hV.lt
  have hBb : Below w.heap.size w (w.alloc (.cells #[.int .i64 0, .int .i64 0] 47)) := (Below.refl _ _).alloc (Nat.le_refl _) _
  have hRes : ResAt (w.alloc (.cells #[.int .i64 0, .int .i64 0] 47)) w.heap.size := ⟨by simp [go_sem], by simp [go_sem], fun o => by simp [go_sem]⟩
  have hsz : (w.alloc (.cells #[.int .i64 0, .int .i64 0] 47)).heap.size = w.heap.size + 1 := by simp
  have hBW := hB.below hBb
  have hVW := hV.below hBb
  clear hB hV
  go_enter Tryz.func39, Tryz.ntmps39
  go_upto_region 1 with fail
  generalize (w.alloc (.cells #[.int .i64 0, .int .i64 0] 47)) = W at *
  have HBW : Hid (BookAt W b C A) := hBW
  have HVW : Hid (ValsAt W gw names) := hVW
  have HBb : Hid (Below w.heap.size w W) := hBb
  have HRes : Hid (ResAt W w.heap.size) := hRes
  have HSP : Hid (Calls Tryz.prog 60 #[.pointer (some ⟨b, 0, none⟩), .int .i64 lo, .int .i64 hi] W fun e w' => e = .returned (.int .i64 (splitC C lo hi)) ∧ w' = W) := split_any b lo hi C A W hBW (by omega) hh
  rw [hs] at HSP
  obtain ⟨hC, hA, ac, aa, bc, ba, capc, capa, h0, h1, hcc, ha⟩ := hBW
  obtain ⟨rfl, hck⟩ := hcc lo (by omega)
  have e : C[lo]'(by omega) = 45 := (List.getElem?_eq_some_iff.mp hc).2
  rw [e] at hck
  have hck : W.cell? ⟨bc, lo, none⟩ = some (.int .u8 45) := hck
  have HV : Hid (Calls Tryz.prog 39 #[.pointer (some ⟨b, 0, none⟩), .pointer (some ⟨gw, 0, none⟩), .int .i64 ((lo : Int) + 1), .int .i64 hi] W fun e w' => e = .returned (vlV v) ∧ Below W.heap.size W w') := by
    have k := hv W HBW.out HVW.out
    rw [show ((lo + 1 : Nat) : Int) = (lo : Int) + 1 by omega] at k
    exact k
  clear hcc ha hv hRes hBb hVW e hs hc hok
  obtain ⟨vn, vf⟩ := v
  go_upto_region 9 with (first | (go_at_call 60; refine HSP.out.mono ?_; rintro e1 w1 ⟨rfl, hw1⟩; rw [hw1]; clear hw1) | (go_at_call 39; refine HV.out.mono ?_; rintro e2 w2 ⟨rfl, hb2⟩; have HB2 : Hid (Below W.heap.size W w2) := hb2; clear hb2))
  have hB3 : Below W.heap.size W (w2.alloc (.cells #[.int .i64 vn, .int .i64 vf] 47)) := HB2.out.alloc HB2.out.size _
  have g0 : (w2.alloc (.cells #[.int .i64 vn, .int .i64 vf] 47)).cell? ⟨w2.heap.size, 0, none⟩ = some (.int .i64 vn) := by simp [go_sem]
  have g1 : (w2.alloc (.cells #[.int .i64 vn, .int .i64 vf] 47)).cell? ⟨w2.heap.size, 1, none⟩ = some (.int .i64 vf) := by simp [go_sem]
  generalize (w2.alloc (.cells #[.int .i64 vn, .int .i64 vf] 47)) = W3 at *
  have HB3 : Hid (Below W.heap.size W W3) := hB3
  have hs3 : W.heap.size ≤ W3.heap.size := hB3.size
  clear hB3
  go_wp2_with (go_at_call 50; refine (HN.out _).mono ?_; rintro e5 w5 ⟨rfl, hb5⟩; obtain ⟨s0, s1, sf⟩ := (HRes.out.of_block (HB3.out.block _ (by omega))).of_block (hb5.block _ (by omega)); have HB5 : Hid (Below W3.heap.size W3 w5) := hb5; clear hb5)
  refine bodyPost_ret (v := vlV ⟨zn, zf⟩) (by simp [results, Tryz.results39, go_sem, s0, s1, sf]) rfl ⟨rfl, ?_⟩
  exact (((HBb.out.trans (HB3.out.mono (by omega))).trans (HB5.out.mono (by omega))).setCell (by simp) _).setCell (by simp) _

set_option maxRecDepth 100000 in
set_option maxHeartbeats 2000000 in
theorem v_name {b gw : Nat} {C : List UInt8} {A : List Int} {names : List Vl} {lo hi : Nat} {c : UInt8} (hl : lo < hi) (hh : hi ≤ C.length) (hs : splitC C lo hi = -1) (hc : C[lo]? = some c) (hn : nmB c = true) : ValGives b gw C A names lo hi (names.getD (c.toNat - 97) vl0) := by
  have hcb : 97 ≤ c.toNat ∧ c.toNat ≤ 122 := by
    unfold nmB at hn
    simp at hn
    exact hn
  obtain ⟨n, hn2⟩ : ∃ n : Nat, c.toNat = n + 97 := ⟨c.toNat - 97, by omega⟩
  have hn26 : n < 26 := by omega
  rw [show c.toNat - 97 = n by omega]
  generalize hx : names.getD n vl0 = x
  intro w hB hV
  have hlt := World.block_lt_of_cell? w _ (show w.cell? ⟨b, 0, none⟩ = _ from hB.here.choose_spec.choose_spec.choose_spec.choose_spec.choose_spec.choose_spec.1)
  have hgl := hV.lt
  have hBb : Below w.heap.size w (w.alloc (.cells #[.int .i64 0, .int .i64 0] 47)) := (Below.refl _ _).alloc (Nat.le_refl _) _
  have hRes : ResAt (w.alloc (.cells #[.int .i64 0, .int .i64 0] 47)) w.heap.size := ⟨by simp [go_sem], by simp [go_sem], fun o => by simp [go_sem]⟩
  have hsz : (w.alloc (.cells #[.int .i64 0, .int .i64 0] 47)).heap.size = w.heap.size + 1 := by simp
  have hBW := hB.below hBb
  have hVW := hV.below hBb
  clear hB hV
  go_enter Tryz.func39, Tryz.ntmps39
  go_upto_region 1 with fail
  generalize (w.alloc (.cells #[.int .i64 0, .int .i64 0] 47)) = W at *
  have HBW : Hid (BookAt W b C A) := hBW
  have HVW : Hid (ValsAt W gw names) := hVW
  have HBb : Hid (Below w.heap.size w W) := hBb
  have HRes : Hid (ResAt W w.heap.size) := hRes
  have HSP : Hid (Calls Tryz.prog 60 #[.pointer (some ⟨b, 0, none⟩), .int .i64 lo, .int .i64 hi] W fun e w' => e = .returned (.int .i64 (splitC C lo hi)) ∧ w' = W) := split_any b lo hi C A W hBW (by omega) hh
  rw [hs] at HSP
  obtain ⟨hC, hA, ac, aa, bc, ba, capc, capa, h0, h1, hcc, ha⟩ := hBW
  obtain ⟨rfl, hck⟩ := hcc lo (by omega)
  have e : C[lo]'(by omega) = c := (List.getElem?_eq_some_iff.mp hc).2
  rw [e] at hck
  rw [hn2, show ((n + 97 : Nat) : Int) = (n : Int) + 97 by omega] at hck
  obtain ⟨v0, v1⟩ := hVW n hn26
  have HI : Hid (∀ w, Calls Tryz.prog 61 #[.int .i64 ((n : Int) + 97)] w fun e w' => e = .returned (.bool true) ∧ w' = w) := fun w => by
    have k := isNm_any ((n : Int) + 97) w
    have e : isNm ((n : Int) + 97) = true := by unfold isNm; simp; omega
    rw [e] at k
    exact k
  have t45 : ((n : Int) + 97 == 45) = false := by rw [beq_eq_false_iff_ne]; omega
  have t40 : ((n : Int) + 97 == 40) = false := by rw [beq_eq_false_iff_ne]; omega
  have in0 : (0 : Int) ≤ (n : Int) := by omega
  have in1 : (n : Int) < 26 := by omega
  have hwp : wrap64 ((n : Int) + 97) = (n : Int) + 97 := by unfold wrap64; omega
  obtain ⟨s0, s1, sf⟩ := hRes
  rw [hx] at v0 v1
  obtain ⟨xn, xf⟩ := x
  simp only at v0 v1
  clear hcc ha hBb hVW e hs hc hn hn2 hcb hx
  go_wp2_with (first | (go_at_call 60; refine HSP.out.mono ?_; rintro e1 w1 ⟨rfl, hw1⟩; rw [hw1]; clear hw1) | (go_at_call 61; refine (HI.out _).mono ?_; rintro e1 w1 ⟨rfl, hw1⟩; rw [hw1]; clear hw1))
  refine bodyPost_ret (v := vlV ⟨xn, xf⟩) (by simp [results, Tryz.results39, go_sem, s0, s1, sf]) rfl ⟨rfl, ?_⟩
  exact (HBb.out.setCell (by simp) _).setCell (by simp) _

end Go.Proofs.YtdgmoiflahoihaaGreat
