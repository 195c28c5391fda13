import Derived.Test.YtdgmoiflahoihaaGreatDoorRSplitw
import Derived.Test.YtdgmoiflahoihaaGreatDoorROpw
import Derived.Test.YtdgmoiflahoihaaGreatDoorPEvw
import Derived.Test.YtdgmoiflahoihaaGreatDoorCHeadw
import Derived.Test.YtdgmoiflahoihaaGreatDoorRUPw
import Derived.Deep.RegionHeld3

namespace Go.Proofs.YtdgmoiflahoihaaGreatDoor
open Go.RowKit
set_option linter.unusedSimpArgs false
set_option linter.unusedVariables false
theorem spRun_range : ∀ (l : List UInt8) (i : Nat) (s : Sp), (spRun l i s).b = s.b ∨ ((i : Int) ≤ (spRun l i s).b ∧ (spRun l i s).b < i + l.length)
 | [], i, s => .inl rfl
 | c :: l, i, s => by
  have h := spRun_range l (i + 1) (spStep s i c)
  have hb : (spStep s i c).b = s.b ∨ (spStep s i c).b = i := by
   unfold spStep
   split
   ·exact .inr rfl
   ·exact .inl rfl
  show (spRun l (i + 1) (spStep s i c)).b = s.b ∨ _
  simp only [spRun, List.length_cons]
  rcases h with h | h
  ·rcases hb with hb | hb
   ·left; rw [h, hb]
   ·right; rw [h, hb]; omega
  ·right; omega
theorem split_range {C : List UInt8} {lo hi : Nat} (h : 0 ≤ splitC C lo hi) (hl : lo ≤ hi) (hh : hi ≤ C.length) : lo ≤ (splitC C lo hi).toNat ∧ (splitC C lo hi).toNat < hi := by
 have k := spRun_range (seg C lo hi) lo sp0
 have hs : (seg C lo hi).length = hi - lo := seg_length hh
 unfold splitC at h ⊢
 rcases k with k | k
 ·rw [k] at h
  simp [sp0] at h
 ·omega
theorem opC_ok (c : UInt8) {x y : Vl} (hx : VlOk x) (hy : VlOk y) : VlOk (opC c x y) := by
 unfold opC
 split
 ·exact hx
 split
 ·exact hy
 split
 ·exact vlOf_ok _
 split
 ·exact vlOf_ok _
 split
 ·exact vlOf_ok _
 split
 ·split <;> exact ⟨by simp, by simp, by simp⟩
 split
 ·split <;> exact ⟨by simp, by simp, by simp⟩
 split
 ·exact divV_ok _ _
 ·exact remV_ok _ hx.num
theorem numC_range : ∀ (l : List UInt8) (n : Int) (m : Nat), (∀ c ∈ l, dgB c = true) → 0 ≤ n → n < 10 ^ m → 0 ≤ numC l n ∧ numC l n < 10 ^ (m + l.length)
 | [], n, m, _, h0, h1 => ⟨h0, by simpa [numC] using h1⟩
 | c :: l, n, m, h, h0, h1 => by
  have hc := h c (by simp)
  have hcb : 48 ≤ c.toNat ∧ c.toNat ≤ 57 := by
   unfold dgB at hc
   simp at hc
   exact hc
  have e : (10 : Int) ^ (m + 1) = 10 ^ m * 10 := by rw [Int.pow_succ]
  have k := numC_range l (10 * n + ((c.toNat : Int) - 48)) (m + 1) (fun d hd => h d (by simp [hd])) (by omega) (by rw [e]; omega)
  simp only [numC, List.length_cons]
  rw [show m + (l.length + 1) = m + 1 + l.length by omega]
  exact k
def ValsAt (w : World) (g : Nat) (names : List Vl) : Prop := ∀ k, k < 26 → w.cell? ⟨g, k * 2, none⟩ = some (.int .i64 (names.getD k vl0).num) ∧ w.cell? ⟨g, k * 2 + 1, none⟩ = some (.int .i64 (names.getD k vl0).fault)
theorem ValsAt.lt {w : World} {g : Nat} {names : List Vl} (h : ValsAt w g names) : g < w.heap.size := World.block_lt_of_cell? w _ (h 0 (by omega)).1
theorem ValsAt.below {w w' : World} {g : Nat} {names : List Vl} (h : ValsAt w g names) (hb : Below w.heap.size w w') : ValsAt w' g names := by
 have hlt := h.lt
 intro k hk
 exact ⟨(hb.cell (p := ⟨g, k * 2, none⟩) hlt).trans (h k hk).1, (hb.cell (p := ⟨g, k * 2 + 1, none⟩) hlt).trans (h k hk).2⟩
def ValGives (b gw : Nat) (C : List UInt8) (A : List Int) (names : List Vl) (lo hi : Nat) (v : Vl) : Prop :=
 ∀ w, BookAt w b C A → ValsAt w gw names → Calls Tryz.prog 80 #[.pointer (some ⟨b, 0, none⟩), .pointer (some ⟨gw, 0, none⟩), .int .i64 lo, .int .i64 hi] w fun e w' => e = .returned (vlV v) ∧ Below w.heap.size w w'
set_option maxRecDepth 100000 in
set_option maxHeartbeats 2000000 in
theorem v_paren {b gw : Nat} {C : List UInt8} {A : List Int} {names : List Vl} {lo hi : Nat} {v : Vl} (hl : lo < hi) (hh : hi ≤ C.length) (hs : splitC C lo hi = -1) (hc : C[lo]? = some 40) (hv : ValGives b gw C A names (lo + 1) (hi - 1) v) : ValGives b gw C A names lo hi v := by
 intro w hB hV
 have hlt := World.block_lt_of_cell? w _ (show w.cell? ⟨b, 0, none⟩ = _ from hB.here.choose_spec.choose_spec.choose_spec.choose_spec.choose_spec.choose_spec.1)
 have hgl := hV.lt
 have hBb : Below w.heap.size w (w.alloc (.cells #[.int .i64 0, .int .i64 0] 59)) := (Below.refl _ _).alloc (Nat.le_refl _) _
 have hRes : ResAt (w.alloc (.cells #[.int .i64 0, .int .i64 0] 59)) w.heap.size := ⟨by simp [go_sem], by simp [go_sem], fun o => by simp [go_sem]⟩
 have hsz : (w.alloc (.cells #[.int .i64 0, .int .i64 0] 59)).heap.size = w.heap.size + 1 := by simp
 have hBW := hB.below hBb
 have hVW := hV.below hBb
 clear hB hV
 go_enter Tryz.func80, Tryz.ntmps80
 go_upto_region 1 with fail
 generalize (w.alloc (.cells #[.int .i64 0, .int .i64 0] 59)) = W at *
 have HBW : Hid (BookAt W b C A) := hBW
 have HVW : Hid (ValsAt W gw names) := hVW
 have HBb : Hid (Below w.heap.size w W) := hBb
 have HRes : Hid (ResAt W w.heap.size) := hRes
 have HSP : Hid (Calls Tryz.prog 113 #[.pointer (some ⟨b, 0, none⟩), .int .i64 lo, .int .i64 hi] W fun e w' => e = .returned (.int .i64 (splitC C lo hi)) ∧ w' = W) := split_any b lo hi C A W hBW (by omega) hh
 rw [hs] at HSP
 obtain ⟨hC, hA, ac, aa, bc, ba, capc, capa, h0, h1, hcc, ha⟩ := hBW
 obtain ⟨rfl, hck⟩ := hcc lo (by omega)
 have e : C[lo]'(by omega) = 40 := (List.getElem?_eq_some_iff.mp hc).2
 rw [e] at hck
 have hck : W.cell? ⟨bc, lo, none⟩ = some (.int .u8 40) := hck
 have HV : Hid (Calls Tryz.prog 80 #[.pointer (some ⟨b, 0, none⟩), .pointer (some ⟨gw, 0, none⟩), .int .i64 ((lo : Int) + 1), .int .i64 ((hi : Int) - 1)] W fun e w' => e = .returned (vlV v) ∧ Below W.heap.size W w') := by
  have k := hv W HBW.out HVW.out
  rw [show ((lo + 1 : Nat) : Int) = (lo : Int) + 1 by omega, show ((hi - 1 : Nat) : Int) = (hi : Int) - 1 by omega] at k
  exact k
 clear hcc ha hv hRes hBb hVW e hs hc
 obtain ⟨vn, vf⟩ := v
 go_wp2_with (first | (go_at_call 113; refine HSP.out.mono ?_; rintro e1 w1 ⟨rfl, hw1⟩; rw [hw1]; clear hw1) | (go_at_call 80; refine HV.out.mono ?_; rintro e2 w2 ⟨rfl, hb2⟩; obtain ⟨s0, s1, sf⟩ := HRes.out.of_block (hb2.block _ (by omega)); have HB2 : Hid (Below W.heap.size W w2) := hb2; clear hb2))
 refine bodyPost_ret (v := vlV ⟨vn, vf⟩) (by simp [results, Tryz.results80, go_sem, s0, s1, sf]) rfl ⟨rfl, ?_⟩
 exact ((HBb.out.trans (HB2.out.mono (by omega))).setCell (by simp) _).setCell (by simp) _
end Go.Proofs.YtdgmoiflahoihaaGreatDoor
namespace Go.Proofs.YtdgmoiflahoihaaGreatDoor
open Go.RowKit
set_option linter.unusedSimpArgs false
set_option linter.unusedVariables false
set_option maxRecDepth 100000 in
set_option maxHeartbeats 2000000 in
theorem v_neg {b gw : Nat} {C : List UInt8} {A : List Int} {names : List Vl} {lo hi : Nat} {v : Vl} (hl : lo < hi) (hh : hi ≤ C.length) (hs : splitC C lo hi = -1) (hc : C[lo]? = some 45) (hv : ValGives b gw C A names (lo + 1) hi v) (hok : VlOk v) : ValGives b gw C A names lo hi (opC 45 ⟨0, 0⟩ v) := by
 have HN : Hid (GivesV 114 #[.int .u8 45, vlV ⟨0, 0⟩, vlV v] (opC 45 ⟨0, 0⟩ v)) := refOp_any 45 ⟨0, 0⟩ v ⟨by simp, by simp, by simp⟩ hok
 generalize opC 45 ⟨0, 0⟩ v = z at *
 obtain ⟨zn, zf⟩ := z
 intro w hB hV
 have hlt := World.block_lt_of_cell? w _ (show w.cell? ⟨b, 0, none⟩ = _ from hB.here.choose_spec.choose_spec.choose_spec.choose_spec.choose_spec.choose_spec.1)
 have hgl := hV.lt
 have hBb : Below w.heap.size w (w.alloc (.cells #[.int .i64 0, .int .i64 0] 59)) := (Below.refl _ _).alloc (Nat.le_refl _) _
 have hRes : ResAt (w.alloc (.cells #[.int .i64 0, .int .i64 0] 59)) w.heap.size := ⟨by simp [go_sem], by simp [go_sem], fun o => by simp [go_sem]⟩
 have hsz : (w.alloc (.cells #[.int .i64 0, .int .i64 0] 59)).heap.size = w.heap.size + 1 := by simp
 have hBW := hB.below hBb
 have hVW := hV.below hBb
 clear hB hV
 go_enter Tryz.func80, Tryz.ntmps80
 go_upto_region 1 with fail
 generalize (w.alloc (.cells #[.int .i64 0, .int .i64 0] 59)) = W at *
 have HBW : Hid (BookAt W b C A) := hBW
 have HVW : Hid (ValsAt W gw names) := hVW
 have HBb : Hid (Below w.heap.size w W) := hBb
 have HRes : Hid (ResAt W w.heap.size) := hRes
 have HSP : Hid (Calls Tryz.prog 113 #[.pointer (some ⟨b, 0, none⟩), .int .i64 lo, .int .i64 hi] W fun e w' => e = .returned (.int .i64 (splitC C lo hi)) ∧ w' = W) := split_any b lo hi C A W hBW (by omega) hh
 rw [hs] at HSP
 obtain ⟨hC, hA, ac, aa, bc, ba, capc, capa, h0, h1, hcc, ha⟩ := hBW
 obtain ⟨rfl, hck⟩ := hcc lo (by omega)
 have e : C[lo]'(by omega) = 45 := (List.getElem?_eq_some_iff.mp hc).2
 rw [e] at hck
 have hck : W.cell? ⟨bc, lo, none⟩ = some (.int .u8 45) := hck
 have HV : Hid (Calls Tryz.prog 80 #[.pointer (some ⟨b, 0, none⟩), .pointer (some ⟨gw, 0, none⟩), .int .i64 ((lo : Int) + 1), .int .i64 hi] W fun e w' => e = .returned (vlV v) ∧ Below W.heap.size W w') := by
  have k := hv W HBW.out HVW.out
  rw [show ((lo + 1 : Nat) : Int) = (lo : Int) + 1 by omega] at k
  exact k
 clear hcc ha hv hRes hBb hVW e hs hc hok
 obtain ⟨vn, vf⟩ := v
 go_upto_region 9 with (first | (go_at_call 113; refine HSP.out.mono ?_; rintro e1 w1 ⟨rfl, hw1⟩; rw [hw1]; clear hw1) | (go_at_call 80; refine HV.out.mono ?_; rintro e2 w2 ⟨rfl, hb2⟩; have HB2 : Hid (Below W.heap.size W w2) := hb2; clear hb2))
 have hB3 : Below W.heap.size W (w2.alloc (.cells #[.int .i64 vn, .int .i64 vf] 59)) := HB2.out.alloc HB2.out.size _
 have g0 : (w2.alloc (.cells #[.int .i64 vn, .int .i64 vf] 59)).cell? ⟨w2.heap.size, 0, none⟩ = some (.int .i64 vn) := by simp [go_sem]
 have g1 : (w2.alloc (.cells #[.int .i64 vn, .int .i64 vf] 59)).cell? ⟨w2.heap.size, 1, none⟩ = some (.int .i64 vf) := by simp [go_sem]
 generalize (w2.alloc (.cells #[.int .i64 vn, .int .i64 vf] 59)) = W3 at *
 have HB3 : Hid (Below W.heap.size W W3) := hB3
 have hs3 : W.heap.size ≤ W3.heap.size := hB3.size
 clear hB3
 go_wp2_with (go_at_call 114; refine (HN.out _).mono ?_; rintro e5 w5 ⟨rfl, hb5⟩; obtain ⟨s0, s1, sf⟩ := (HRes.out.of_block (HB3.out.block _ (by omega))).of_block (hb5.block _ (by omega)); have HB5 : Hid (Below W3.heap.size W3 w5) := hb5; clear hb5)
 refine bodyPost_ret (v := vlV ⟨zn, zf⟩) (by simp [results, Tryz.results80, go_sem, s0, s1, sf]) rfl ⟨rfl, ?_⟩
 exact (((HBb.out.trans (HB3.out.mono (by omega))).trans (HB5.out.mono (by omega))).setCell (by simp) _).setCell (by simp) _
set_option maxRecDepth 100000 in
set_option maxHeartbeats 2000000 in
theorem v_name {b gw : Nat} {C : List UInt8} {A : List Int} {names : List Vl} {lo hi : Nat} {c : UInt8} (hl : lo < hi) (hh : hi ≤ C.length) (hs : splitC C lo hi = -1) (hc : C[lo]? = some c) (hn : nmB c = true) : ValGives b gw C A names lo hi (names.getD (c.toNat - 97) vl0) := by
 have hcb : 97 ≤ c.toNat ∧ c.toNat ≤ 122 := by
  unfold nmB at hn
  simp at hn
  exact hn
 obtain ⟨n, hn2⟩ : ∃ n : Nat, c.toNat = n + 97 := ⟨c.toNat - 97, by omega⟩
 have hn26 : n < 26 := by omega
 rw [show c.toNat - 97 = n by omega]
 generalize hx : names.getD n vl0 = x
 intro w hB hV
 have hlt := World.block_lt_of_cell? w _ (show w.cell? ⟨b, 0, none⟩ = _ from hB.here.choose_spec.choose_spec.choose_spec.choose_spec.choose_spec.choose_spec.1)
 have hgl := hV.lt
 have hBb : Below w.heap.size w (w.alloc (.cells #[.int .i64 0, .int .i64 0] 59)) := (Below.refl _ _).alloc (Nat.le_refl _) _
 have hRes : ResAt (w.alloc (.cells #[.int .i64 0, .int .i64 0] 59)) w.heap.size := ⟨by simp [go_sem], by simp [go_sem], fun o => by simp [go_sem]⟩
 have hsz : (w.alloc (.cells #[.int .i64 0, .int .i64 0] 59)).heap.size = w.heap.size + 1 := by simp
 have hBW := hB.below hBb
 have hVW := hV.below hBb
 clear hB hV
 go_enter Tryz.func80, Tryz.ntmps80
 go_upto_region 1 with fail
 generalize (w.alloc (.cells #[.int .i64 0, .int .i64 0] 59)) = W at *
 have HBW : Hid (BookAt W b C A) := hBW
 have HVW : Hid (ValsAt W gw names) := hVW
 have HBb : Hid (Below w.heap.size w W) := hBb
 have HRes : Hid (ResAt W w.heap.size) := hRes
 have HSP : Hid (Calls Tryz.prog 113 #[.pointer (some ⟨b, 0, none⟩), .int .i64 lo, .int .i64 hi] W fun e w' => e = .returned (.int .i64 (splitC C lo hi)) ∧ w' = W) := split_any b lo hi C A W hBW (by omega) hh
 rw [hs] at HSP
 obtain ⟨hC, hA, ac, aa, bc, ba, capc, capa, h0, h1, hcc, ha⟩ := hBW
 obtain ⟨rfl, hck⟩ := hcc lo (by omega)
 have e : C[lo]'(by omega) = c := (List.getElem?_eq_some_iff.mp hc).2
 rw [e] at hck
 rw [hn2, show ((n + 97 : Nat) : Int) = (n : Int) + 97 by omega] at hck
 obtain ⟨v0, v1⟩ := hVW n hn26
 have HI : Hid (∀ w, Calls Tryz.prog 115 #[.int .i64 ((n : Int) + 97)] w fun e w' => e = .returned (.bool true) ∧ w' = w) := fun w => by
  have k := isNm_any ((n : Int) + 97) w
  have e : isNm ((n : Int) + 97) = true := by unfold isNm; simp; omega
  rw [e] at k
  exact k
 have t45 : ((n : Int) + 97 == 45) = false := by rw [beq_eq_false_iff_ne]; omega
 have t40 : ((n : Int) + 97 == 40) = false := by rw [beq_eq_false_iff_ne]; omega
 have in0 : (0 : Int) ≤ (n : Int) := by omega
 have in1 : (n : Int) < 26 := by omega
 have hwp : wrap64 ((n : Int) + 97) = (n : Int) + 97 := by unfold wrap64; omega
 obtain ⟨s0, s1, sf⟩ := hRes
 rw [hx] at v0 v1
 obtain ⟨xn, xf⟩ := x
 simp only at v0 v1
 clear hcc ha hBb hVW e hs hc hn hn2 hcb hx
 go_wp2_with (first | (go_at_call 113; refine HSP.out.mono ?_; rintro e1 w1 ⟨rfl, hw1⟩; rw [hw1]; clear hw1) | (go_at_call 115; refine (HI.out _).mono ?_; rintro e1 w1 ⟨rfl, hw1⟩; rw [hw1]; clear hw1))
 refine bodyPost_ret (v := vlV ⟨xn, xf⟩) (by simp [results, Tryz.results80, go_sem, s0, s1, sf]) rfl ⟨rfl, ?_⟩
 exact (HBb.out.setCell (by simp) _).setCell (by simp) _
end Go.Proofs.YtdgmoiflahoihaaGreatDoor
namespace Go.Proofs.YtdgmoiflahoihaaGreatDoor
open Go.RowKit
set_option linter.unusedSimpArgs false
set_option linter.unusedVariables false
set_option maxRecDepth 100000 in
set_option maxHeartbeats 4000000 in
theorem v_split {b gw : Nat} {C : List UInt8} {A : List Int} {names : List Vl} {lo hi k : Nat} {x y : Vl} {c : UInt8} (hl : lo < hi) (hh : hi ≤ C.length) (hs : splitC C lo hi = (k : Int)) (hk0 : lo ≤ k) (hk1 : k < hi) (hc : C[k]? = some c) (hx : ValGives b gw C A names lo k x) (hy : ValGives b gw C A names (k + 1) hi y) (hxo : VlOk x) (hyo : VlOk y) : ValGives b gw C A names lo hi (opC c x y) := by
 have HN : Hid (GivesV 114 #[.int .u8 c.toNat, vlV x, vlV y] (opC c x y)) := refOp_any c x y hxo hyo
 generalize opC c x y = z at *
 obtain ⟨zn, zf⟩ := z
 intro w hB hV
 have hlt := World.block_lt_of_cell? w _ (show w.cell? ⟨b, 0, none⟩ = _ from hB.here.choose_spec.choose_spec.choose_spec.choose_spec.choose_spec.choose_spec.1)
 have hgl := hV.lt
 have hBb : Below w.heap.size w (w.alloc (.cells #[.int .i64 0, .int .i64 0] 59)) := (Below.refl _ _).alloc (Nat.le_refl _) _
 have hRes : ResAt (w.alloc (.cells #[.int .i64 0, .int .i64 0] 59)) w.heap.size := ⟨by simp [go_sem], by simp [go_sem], fun o => by simp [go_sem]⟩
 have hsz : (w.alloc (.cells #[.int .i64 0, .int .i64 0] 59)).heap.size = w.heap.size + 1 := by simp
 have hBW := hB.below hBb
 have hVW := hV.below hBb
 obtain ⟨hC, hA, ac, aa, bc, ba, capc, capa, h0, h1, hcc, ha⟩ := hB
 clear hV
 go_enter Tryz.func80, Tryz.ntmps80
 go_upto_region 1 with fail
 generalize (w.alloc (.cells #[.int .i64 0, .int .i64 0] 59)) = W at *
 have HBW : Hid (BookAt W b C A) := hBW
 have HVW : Hid (ValsAt W gw names) := hVW
 have HBb : Hid (Below w.heap.size w W) := hBb
 have HRes : Hid (ResAt W w.heap.size) := hRes
 have HSP : Hid (Calls Tryz.prog 113 #[.pointer (some ⟨b, 0, none⟩), .int .i64 lo, .int .i64 hi] W fun e w' => e = .returned (.int .i64 (splitC C lo hi)) ∧ w' = W) := split_any b lo hi C A W hBW (by omega) hh
 rw [hs] at HSP
 obtain ⟨rfl, hck⟩ := hcc k (by omega)
 have e : C[k]'(by omega) = c := (List.getElem?_eq_some_iff.mp hc).2
 rw [e] at hck
 have hbc : bc < w.heap.size := World.block_lt_of_cell? w _ hck
 have tk : decide ((0 : Int) ≤ (k : Int)) = true := by simp
 have HX : Hid (Calls Tryz.prog 80 #[.pointer (some ⟨b, 0, none⟩), .pointer (some ⟨gw, 0, none⟩), .int .i64 lo, .int .i64 k] W fun e w' => e = .returned (vlV x) ∧ Below W.heap.size W w') := hx W HBW.out HVW.out
 have HYY : Hid (∀ V, Below W.heap.size W V → Calls Tryz.prog 80 #[.pointer (some ⟨b, 0, none⟩), .pointer (some ⟨gw, 0, none⟩), .int .i64 ((k : Int) + 1), .int .i64 hi] V fun e w' => e = .returned (vlV y) ∧ Below V.heap.size V w') := fun V hb => by
  have q := hy V (HBW.out.below hb) (HVW.out.below hb)
  rw [show ((k + 1 : Nat) : Int) = (k : Int) + 1 by omega] at q
  exact q
 clear hcc ha hRes hBb hVW e hs hc hx hy hxo hyo h1 hBW
 obtain ⟨xn, xf⟩ := x
 obtain ⟨yn, yf⟩ := y
 go_upto_region 4 with (first | (go_at_call 113; refine HSP.out.mono ?_; rintro e1 w1 ⟨rfl, hw1⟩; rw [hw1]; clear hw1) | (go_at_call 80; refine HX.out.mono ?_; rintro e2 w2 ⟨rfl, hb2⟩; have HB2 : Hid (Below W.heap.size W w2) := hb2; clear hb2))
 have hB3 : Below W.heap.size W (w2.alloc (.cells #[.int .i64 xn, .int .i64 xf] 59)) := HB2.out.alloc HB2.out.size _
 have g0 : (w2.alloc (.cells #[.int .i64 xn, .int .i64 xf] 59)).cell? ⟨w2.heap.size, 0, none⟩ = some (.int .i64 xn) := by simp [go_sem]
 have g1 : (w2.alloc (.cells #[.int .i64 xn, .int .i64 xf] 59)).cell? ⟨w2.heap.size, 1, none⟩ = some (.int .i64 xf) := by simp [go_sem]
 have hs3 : (w2.alloc (.cells #[.int .i64 xn, .int .i64 xf] 59)).heap.size = w2.heap.size + 1 := by simp
 have hs2 : W.heap.size ≤ w2.heap.size := HB2.out.size
 generalize (w2.alloc (.cells #[.int .i64 xn, .int .i64 xf] 59)) = W3 at *
 generalize hgx : w2.heap.size = gx at *
 have HB3 : Hid (Below W.heap.size W W3) := hB3
 clear hB3 HB2 hgx
 go_upto_region 5 with (go_at_call 80; refine (HYY.out _ HB3.out).mono ?_; rintro e4 w4 ⟨rfl, hb4⟩; have HB4 : Hid (Below W3.heap.size W3 w4) := hb4; clear hb4)
 have hs4 : W3.heap.size ≤ w4.heap.size := HB4.out.size
 have hB5 : Below W3.heap.size W3 (w4.alloc (.cells #[.int .i64 yn, .int .i64 yf] 59)) := HB4.out.alloc hs4 _
 have y0 : (w4.alloc (.cells #[.int .i64 yn, .int .i64 yf] 59)).cell? ⟨w4.heap.size, 0, none⟩ = some (.int .i64 yn) := by simp [go_sem]
 have y1 : (w4.alloc (.cells #[.int .i64 yn, .int .i64 yf] 59)).cell? ⟨w4.heap.size, 1, none⟩ = some (.int .i64 yf) := by simp [go_sem]
 have hs5 : (w4.alloc (.cells #[.int .i64 yn, .int .i64 yf] 59)).heap.size = w4.heap.size + 1 := by simp
 generalize (w4.alloc (.cells #[.int .i64 yn, .int .i64 yf] 59)) = W5 at *
 generalize hgy : w4.heap.size = gy at *
 rw [← hB5.cell (p := (⟨gx, 0, none⟩ : Addr)) (by simp only; omega)] at g0
 rw [← hB5.cell (p := (⟨gx, 1, none⟩ : Addr)) (by simp only; omega)] at g1
 have hBall : Below w.heap.size w W5 := (HBb.out.trans (HB3.out.mono (by omega))).trans (hB5.mono (by omega))
 have p0 := (hBall.cell (p := (⟨b, 0, none⟩ : Addr)) hlt).trans h0
 have p1 := (hBall.cell (p := (⟨bc, k, none⟩ : Addr)) hbc).trans hck
 have HRes5 : Hid (ResAt W5 w.heap.size) := (HRes.out.of_block (HB3.out.block _ (by omega))).of_block (hB5.block _ (by omega))
 have HBA : Hid (Below w.heap.size w W5) := hBall
 have HK : Hid (∀ V : World, V.heap[b]? = W5.heap[b]? → V.heap[bc]? = W5.heap[bc]? → V.heap[gx]? = W5.heap[gx]? → V.heap[gy]? = W5.heap[gy]? → V.cell? ⟨b, 0, none⟩ = some (.slice (some ⟨bc, 0, none⟩) C.length capc) ∧ V.cell? ⟨bc, k, none⟩ = some (.int .u8 c.toNat) ∧ V.cell? ⟨gx, 0, none⟩ = some (.int .i64 xn) ∧ V.cell? ⟨gx, 1, none⟩ = some (.int .i64 xf) ∧ V.cell? ⟨gy, 0, none⟩ = some (.int .i64 yn) ∧ V.cell? ⟨gy, 1, none⟩ = some (.int .i64 yf)) := fun V e1 e2 e3 e4 => ⟨(World.cell?_of_block (a := ⟨b, 0, none⟩) e1).trans p0, (World.cell?_of_block (a := ⟨bc, k, none⟩) e2).trans p1, (World.cell?_of_block (a := ⟨gx, 0, none⟩) e3).trans g0, (World.cell?_of_block (a := ⟨gx, 1, none⟩) e3).trans g1, (World.cell?_of_block (a := ⟨gy, 0, none⟩) e4).trans y0, (World.cell?_of_block (a := ⟨gy, 1, none⟩) e4).trans y1⟩
 have l1 : b < W5.heap.size := by omega
 have l2 : bc < W5.heap.size := by omega
 have l3 : gx < W5.heap.size := by omega
 have l4 : gy < W5.heap.size := by omega
 have n1 : b ≠ w.heap.size := by omega
 have n2 : bc ≠ w.heap.size := by omega
 have n3 : gx ≠ w.heap.size := by omega
 have n4 : gy ≠ w.heap.size := by omega
 have ik0 : (0 : Int) ≤ (k : Int) := by omega
 have ik1 : (k : Int) < (C.length : Int) := by omega
 have l5 : w.heap.size < W5.heap.size := by omega
 clear hB5 hBall HB4 HB3 HBb HRes g0 g1 y0 y1 p0 p1 hck h0 HX HYY HSP HBW HVW hs2 hs3 hs4 hs5 hsz hgy
 go_region_held3 (fun w' => w'.cell? ⟨b, 0, none⟩ = some (.slice (some ⟨bc, 0, none⟩) C.length capc) ∧ w'.cell? ⟨bc, k, none⟩ = some (.int .u8 c.toNat) ∧ w'.cell? ⟨gx, 0, none⟩ = some (.int .i64 xn) ∧ w'.cell? ⟨gx, 1, none⟩ = some (.int .i64 xf) ∧ w'.cell? ⟨gy, 0, none⟩ = some (.int .i64 yn) ∧ w'.cell? ⟨gy, 1, none⟩ = some (.int .i64 yf)) (first | exact HK.out _ rfl rfl rfl rfl | exact HK.out _ (hb5.block _ l1) (hb5.block _ l2) (hb5.block _ l3) (hb5.block _ l4) | exact HK.out _ ((Below.heap_setCell _ _ _ _ n1).trans ((Below.heap_setCell _ _ _ _ n1).trans (hb5.block _ l1))) ((Below.heap_setCell _ _ _ _ n2).trans ((Below.heap_setCell _ _ _ _ n2).trans (hb5.block _ l2))) ((Below.heap_setCell _ _ _ _ n3).trans ((Below.heap_setCell _ _ _ _ n3).trans (hb5.block _ l3))) ((Below.heap_setCell _ _ _ _ n4).trans ((Below.heap_setCell _ _ _ _ n4).trans (hb5.block _ l4)))) ((go_at_call 114; refine (HN.out _).mono ?_; rintro e5 w5 ⟨rfl, hb5⟩; obtain ⟨s0, s1, sf⟩ := HRes5.out.of_block (w' := w5) (hb5.block _ l5)))
 all_goals go_wp2_with fail
 all_goals refine bodyPost_ret (v := vlV ⟨zn, zf⟩) (by simp [results, Tryz.results80, go_sem, s0, s1, sf]) rfl ⟨rfl, ?_⟩
 all_goals exact ((HBA.out.drew.trans (hb5.mono (by simp only [World.drew]; omega))).setCell (by simp) _).setCell (by simp) _
end Go.Proofs.YtdgmoiflahoihaaGreatDoor
namespace Go.Proofs.YtdgmoiflahoihaaGreatDoor
open Go.RowKit
set_option linter.unusedSimpArgs false
set_option linter.unusedVariables false
theorem dg_range {c : UInt8} (h : dgB c = true) : 48 ≤ c.toNat ∧ c.toNat ≤ 57 := by
 unfold dgB at h
 simp at h
 exact h
theorem seg_mem {C : List UInt8} {lo hi i : Nat} (h0 : lo ≤ i) (h1 : i < hi) (hh : hi ≤ C.length) : C[i]'(by omega) ∈ seg C lo hi := by
 unfold seg
 rw [List.mem_iff_getElem]
 refine ⟨i - lo, by simp; omega, ?_⟩
 simp only [List.getElem_take, List.getElem_drop]
 congr 1
 omega
set_option maxRecDepth 100000 in
set_option maxHeartbeats 4000000 in
theorem v_number {b gw : Nat} {C : List UInt8} {A : List Int} {names : List Vl} {lo hi : Nat} (hl : lo < hi) (hh : hi ≤ C.length) (hs : splitC C lo hi = -1) (hd : ∀ c ∈ seg C lo hi, dgB c = true) (h18 : hi ≤ lo + 18) : ValGives b gw C A names lo hi ⟨numC (seg C lo hi) 0, 0⟩ := by
 have HD : Hid (∀ i, lo ≤ i → ∀ h : i < hi, ∃ e : Nat, (C[i]'(by omega)).toNat = e + 48 ∧ e ≤ 9) := fun i h0 h1 => by
  have := dg_range (hd _ (seg_mem h0 h1 hh))
  exact ⟨(C[i]'(by omega)).toNat - 48, by omega, by omega⟩
 generalize hR : numC (seg C lo hi) 0 = R
 have HR : Hid (numC (seg C lo hi) 0 = R) := hR
 clear hd hR
 intro w hB hV
 have hlt := World.block_lt_of_cell? w _ (show w.cell? ⟨b, 0, none⟩ = _ from hB.here.choose_spec.choose_spec.choose_spec.choose_spec.choose_spec.choose_spec.1)
 have hgl := hV.lt
 have hBb : Below w.heap.size w (w.alloc (.cells #[.int .i64 0, .int .i64 0] 59)) := (Below.refl _ _).alloc (Nat.le_refl _) _
 have hRes : ResAt (w.alloc (.cells #[.int .i64 0, .int .i64 0] 59)) w.heap.size := ⟨by simp [go_sem], by simp [go_sem], fun o => by simp [go_sem]⟩
 have hsz : (w.alloc (.cells #[.int .i64 0, .int .i64 0] 59)).heap.size = w.heap.size + 1 := by simp
 have hBW := hB.below hBb
 have hVW := hV.below hBb
 clear hB hV
 go_enter Tryz.func80, Tryz.ntmps80
 go_upto_region 1 with fail
 generalize (w.alloc (.cells #[.int .i64 0, .int .i64 0] 59)) = W at *
 have HBW : Hid (BookAt W b C A) := hBW
 have HVW : Hid (ValsAt W gw names) := hVW
 have HBb : Hid (Below w.heap.size w W) := hBb
 have HRes : Hid (ResAt W w.heap.size) := hRes
 have HSP : Hid (Calls Tryz.prog 113 #[.pointer (some ⟨b, 0, none⟩), .int .i64 lo, .int .i64 hi] W fun e w' => e = .returned (.int .i64 (splitC C lo hi)) ∧ w' = W) := split_any b lo hi C A W hBW (by omega) hh
 rw [hs] at HSP
 obtain ⟨hC, hA, ac, aa, bc, ba, capc, capa, h0, h1, hcc, ha⟩ := hBW
 have HCC : Hid _ := hcc
 obtain ⟨rfl, hck⟩ := hcc lo (by omega)
 obtain ⟨e, he, he9⟩ := HD.out lo (Nat.le_refl _) hl
 rw [he, show ((e + 48 : Nat) : Int) = (e : Int) + 48 by omega] at hck
 have HI : Hid (∀ w, Calls Tryz.prog 115 #[.int .i64 ((e : Int) + 48)] w fun e w' => e = .returned (.bool false) ∧ w' = w) := fun w => by
  have k := isNm_any ((e : Int) + 48) w
  have e : isNm ((e : Int) + 48) = false := by unfold isNm; simp; omega
  rw [e] at k
  exact k
 have t45 : ((e : Int) + 48 == 45) = false := by rw [beq_eq_false_iff_ne]; omega
 have t40 : ((e : Int) + 48 == 40) = false := by rw [beq_eq_false_iff_ne]; omega
 obtain ⟨s0, s1, sf⟩ := hRes
 have hwp : wrap64 ((e : Int) + 48) = (e : Int) + 48 := by unfold wrap64; omega
 clear hcc ha hBb hVW hs he h1
 go_wp2_with (first | (go_at_call 113; refine HSP.out.mono ?_; rintro e1 w1 ⟨rfl, hw1⟩; rw [hw1]; clear hw1) | (go_at_call 115; refine (HI.out _).mono ?_; rintro e1 w1 ⟨rfl, hw1⟩; rw [hw1]; clear hw1))
 go_loopw [14, 15] (fun x y w' => ∃ i n : Nat, y = .int .i64 i ∧ x = .int .i64 n ∧ w' = W ∧ lo ≤ i ∧ i ≤ hi ∧ Hid (n < 10 ^ (i - lo)) ∧ Hid (numC (seg C i hi) (n : Int) = R)) (fun _ y _ => hi - (intOf y).toNat)
 case atStart => exact ⟨lo, 0, rfl, rfl, rfl, Nat.le_refl _, Nat.le_of_lt hl, by show 0 < 10 ^ (lo - lo); rw [Nat.sub_self]; decide, HR⟩
 case round =>
  clear hwp
  obtain ⟨i, n, rfl, rfl, hw, hi0, hi1, HP, HM⟩ := hrel
  subst hw
  by_cases hlt2 : i < hi
  ·have tk : decide ((i : Int) < (hi : Int)) = true := by simp; omega
   obtain ⟨_, hci⟩ := HCC.out i (by omega)
   obtain ⟨f, hf, hf9⟩ := HD.out i hi0 hlt2
   have HM2 : Hid (numC (seg C (i + 1) hi) ((10 * n + f : Nat) : Int) = R) := by
    have q := HM.out
    rw [seg_cons hlt2 hh] at q
    simp only [numC] at q
    rw [hf, show (10 * (n : Int) + (((f + 48 : Nat) : Int) - 48)) = ((10 * n + f : Nat) : Int) by omega] at q
    exact q
   have HP2 : Hid (10 * n + f < 10 ^ (i + 1 - lo)) := by
    have q := HP.out
    show _ < _
    rw [show i + 1 - lo = i - lo + 1 by omega, Nat.pow_succ]
    generalize 10 ^ (i - lo) = P at *
    omega
   have hn17 : n < 100000000000000000 := by
    have q := HP.out
    have := Nat.pow_le_pow_right (show 0 < 10 by decide) (show i - lo ≤ 17 by omega)
    exact Nat.lt_of_lt_of_le q (Nat.le_trans this (by decide))
   rw [hf, show ((f + 48 : Nat) : Int) = (f : Int) + 48 by omega] at hci
   clear hck hf
   go_wp2_with fail
   go_roundw
   case rel => exact ⟨i + 1, 10 * n + f, by go_num, by go_num, by trivial, by omega, by omega, HP2, HM2⟩
   case measure => simp [intOf]; omega
  ·have tk : decide ((i : Int) < (hi : Int)) = false := by simp; omega
   have hR : (n : Int) = R := by
    have q := HM.out
    rw [seg_nil (by omega)] at q
    exact q
   go_wp2_with fail
   refine bodyPost_ret (v := vlV ⟨R, 0⟩) (by simp [results, Tryz.results80, go_sem, s0, s1, sf, hR]) rfl ⟨rfl, ?_⟩
   exact (HBb.out.setCell (by simp) _).setCell (by simp) _
end Go.Proofs.YtdgmoiflahoihaaGreatDoor
namespace Go.Proofs.YtdgmoiflahoihaaGreatDoor
open Go.RowKit
set_option linter.unusedSimpArgs false
set_option linter.unusedVariables false
theorem name_ok {names : List Vl} (hno : ∀ v ∈ names, VlOk v) (n : Nat) : VlOk (names.getD n vl0) := by
 rw [List.getD_eq_getElem?_getD]
 cases e : names[n]? with
 | none => exact ⟨by simp [vl0], by simp [vl0], by simp [vl0]⟩
 | some v => exact hno v (List.mem_of_getElem? e)
theorem value_any (b gw : Nat) (C : List UInt8) (A : List Int) (names : List Vl) (hno : ∀ v ∈ names, VlOk v) : ∀ (f lo hi : Nat) (v : Vl), valueF C names f lo hi = some v → hi ≤ C.length → VlOk v ∧ ValGives b gw C A names lo hi v
 | 0, lo, hi, v, h, _ => by cases h
 | f + 1, lo, hi, v, h, hh => by
  have ih := value_any b gw C A names hno f
  unfold valueF at h
  by_cases hl : hi ≤ lo
  ·rw [if_pos hl] at h
   cases h
  rw [if_neg hl] at h
  by_cases hs : 0 ≤ splitC C lo hi
  ·rw [if_pos hs] at h
   obtain ⟨k0, k1⟩ := split_range hs (by omega) hh
   have hk : splitC C lo hi = ((splitC C lo hi).toNat : Int) := by omega
   generalize (splitC C lo hi).toNat = k at *
   cases hx : valueF C names f lo k with
   | none => rw [hx] at h; simp at h
   | some x =>
    cases hy : valueF C names f (k + 1) hi with
    | none => rw [hx, hy] at h; simp at h
    | some y =>
     cases hc : C[k]? with
     | none => rw [hx, hy, hc] at h; simp at h
     | some c =>
      rw [hx, hy, hc] at h
      simp only [Option.some.injEq] at h
      subst h
      obtain ⟨ox, gx⟩ := ih lo k x hx (by omega)
      obtain ⟨oy, gy⟩ := ih (k + 1) hi y hy hh
      exact ⟨opC_ok c ox oy, v_split (by omega) hh hk k0 k1 hc gx gy ox oy⟩
  ·rw [if_neg hs] at h
   have hs1 : splitC C lo hi = -1 := by
    have k := spRun_range (seg C lo hi) lo sp0
    unfold splitC at hs ⊢
    rcases k with k | k
    ·rw [k]; rfl
    ·omega
   cases hc : C[lo]? with
   | none => rw [hc] at h; simp at h
   | some c =>
    rw [hc] at h
    simp only at h
    by_cases h45 : c = 45
    ·subst h45
     simp only [show ((45 : UInt8) == 45) = true by decide, if_true] at h
     cases hx : valueF C names f (lo + 1) hi with
     | none => rw [hx] at h; simp at h
     | some x =>
      rw [hx] at h
      simp only [Option.some.injEq] at h
      subst h
      obtain ⟨ox, gx⟩ := ih (lo + 1) hi x hx hh
      exact ⟨opC_ok 45 ⟨by simp, by simp, by simp⟩ ox, v_neg (by omega) hh hs1 hc gx ox⟩
    rw [if_neg (by simpa using h45)] at h
    by_cases h40 : c = 40
    ·subst h40
     simp only [show ((40 : UInt8) == 40) = true by decide, if_true] at h
     obtain ⟨ox, gx⟩ := ih (lo + 1) (hi - 1) v h (by omega)
     exact ⟨ox, v_paren (by omega) hh hs1 hc gx⟩
    rw [if_neg (by simpa using h40)] at h
    by_cases hn : nmB c = true
    ·rw [if_pos hn] at h
     simp only [Option.some.injEq] at h
     subst h
     exact ⟨name_ok hno _, v_name (by omega) hh hs1 hc hn⟩
    rw [if_neg hn] at h
    by_cases hz : ((seg C lo hi).all dgB && decide (hi ≤ lo + 18)) = true
    ·rw [if_pos hz] at h
     simp only [Option.some.injEq] at h
     subst h
     simp only [Bool.and_eq_true, decide_eq_true_eq] at hz
     have hd := List.all_eq_true.mp hz.1
     obtain ⟨r0, r1⟩ := numC_range (seg C lo hi) 0 0 hd (by omega) (by decide)
     have hlen : (seg C lo hi).length ≤ 18 := by rw [seg_length hh]; omega
     have hp : (10 : Int) ^ (0 + (seg C lo hi).length) ≤ 10 ^ 18 := by
      rw [Nat.zero_add]
      have := Nat.pow_le_pow_right (show 0 < 10 by decide) hlen
      exact_mod_cast this
     have e18 : (10 : Int) ^ 18 = 1000000000000000000 := by decide
     exact ⟨⟨⟨by simp only; omega, by simp only; omega⟩, by simp, by simp⟩, v_number (by omega) hh hs1 hd hz.2⟩
    ·rw [if_neg hz] at h
     cases h
end Go.Proofs.YtdgmoiflahoihaaGreatDoor
