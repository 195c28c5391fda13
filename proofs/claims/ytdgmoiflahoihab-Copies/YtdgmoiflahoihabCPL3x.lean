import Derived.Test.YtdgmoiflahoihabCPLx
import Derived.Deep.Cut
import Derived.Deep.CutRange

namespace Go.Proofs.Ytdgmoiflahoihab
open Go.RowKit
set_option linter.unusedSimpArgs false
set_option linter.unusedVariables false
set_option maxRecDepth 100000 in
set_option maxHeartbeats 4000000 in
theorem copies_3 (c d n : Int) (v : Value) (zs : List Int) (w : World) (hc : -9223372036854775808 ≤ c ∧ c ≤ 9223372036854775807) (hd : -9223372036854775808 ≤ d ∧ d ≤ 9223372036854775807) (hn : -9223372036854775808 ≤ n ∧ n ≤ 9223372036854775807) (hp : pickN n 4 = 2) (hv : ArgInts w v zs) (hz : zs.length ≤ maxLen) (hzr : ∀ x ∈ zs, -9223372036854775808 ≤ x ∧ x ≤ 9223372036854775807) :
  Calls Try.prog 3 #[.int .i64 c, .int .i64 d, .int .i64 n, v] w fun e w' => e = .returned (.bool true) ∧ Below w.heap.size w w' := by
 have hi9 := pickN_lt c (n := 9) (by decide)
 have hj9 := pickN_lt d (n := 9) (by decide)
 generalize hi : pickN c 9 = i at *
 generalize hj : pickN d 9 = j at *
 have HI : Hid (∀ w, Calls Try.prog 5 #[.int .i64 c] w fun e w' => e = .returned (.string (cpB i)) ∧ Below w.heap.size w w') := fun w => piece_str c hc i hi w
 have HJ : Hid (∀ w, Calls Try.prog 5 #[.int .i64 d] w fun e w' => e = .returned (.string (cpB j)) ∧ Below w.heap.size w w') := fun w => piece_str d hd j hj w
 have HPN : Hid (∀ w, Calls Try.prog 6 #[.int .i64 n, .int .i64 4] w fun e w' => e = .returned (.int .i64 2) ∧ w' = w) := fun w => by
  have q := pick_any n 4 hn (by decide) (by decide) w
  rw [hp] at q
  exact q
 have hli := cpPiece_len i hi9
 have hlj := cpPiece_len j hj9
 have hsi : (cpB i).size = (cpPiece i).length := by simp [cpB, ByteArray.size]
 have hsj : (cpB j).size = (cpPiece j).length := by simp [cpB, ByteArray.size]
 have hg0 : -9223372036854775808 ≤ zs.getD 0 0 ∧ zs.getD 0 0 ≤ 9223372036854775807 := getD_in hzr 0
 have hg1 : -9223372036854775808 ≤ zs.getD 1 0 ∧ zs.getD 1 0 ≤ 9223372036854775807 := getD_in hzr 1
 obtain ⟨N, M, r1, r2, hsame, L, x, hN, hx7⟩ := cp_runs (cp_all i j hi9 hj9).2.2.1 (zs.getD 0 0) (zs.getD 1 0)
 have hBB : (cpB i ++ cpB j).data.toList = cpPiece i ++ cpPiece j := by simp [ByteArray.data_append, cpB]
 have hBs : (cpB i ++ cpB j).size ≤ 60 := by rw [ByteArray.size_append]; omega
 rw [← hBB] at r1 r2
 generalize hBe : (cpB i ++ cpB j) = BB at *
 have HBE : Hid ((cpB i ++ cpB j) = BB) := hBe
 generalize hA : zs.getD 0 0 = A at *
 generalize hBv : zs.getD 1 0 = Bv at *
 have HF : Hid (∀ w1, Below w.heap.size w w1 → Calls Try.prog 7 #[v, .int .i64 2] w1 fun e w' => e = .returned (.slice (some ⟨w1.heap.size, 0, none⟩) 2 2) ∧ w' = w1.alloc (.cells #[.int .i64 A, .int .i64 Bv] 3)) := fun w1 hb => by
  have q := filled_any v zs w1 (hv.below hb) hz
  rw [hA, hBv] at q
  exact q
 obtain ⟨ao, cap, hve, _⟩ := hv.here
 subst hve
 have R1 : Hid (runP (cpOne BB.data.toList 3) [A, Bv] = (0, N)) := r1
 have R2 : Hid (runP (cpTwo BB.data.toList 3) [A, Bv] = (0, M)) := r2
 have hsi2 : (cpB i).size ≤ 30 := by omega
 have hsj2 : (cpB j).size ≤ 30 := by omega
 clear hv hz hzr hi hj hp hBe hA hBv hli hlj hsi hsj hi9 hj9 hn r1 r2 hBB
 go_enter Try.func3, Try.ntmps3
 go_wp2_with fail
 refine (HI.out _).mono ?_
 rintro e w1 ⟨rfl, hb1⟩
 go_wp2_with fail
 refine (HJ.out _).mono ?_
 rintro e w2 ⟨rfl, hb2⟩
 have hB2 : Below w.heap.size w w2 := hb1.trans (hb2.mono hb1.size)
 clear hb1 hb2
 go_wp2_with fail
 refine (HPN.out _).mono ?_
 rintro e w3 ⟨rfl, hw3⟩
 rw [hw3]
 clear hw3
 go_wp2_with fail
 rw [HBE.out]
 go_loop [12, 13] (fun x y => ∃ (m : Nat) (S : ByteArray), y = .int .i64 m ∧ x = .string S ∧ m ≤ 3 ∧ S.size ≤ 60 * m ∧ Hid (S.data.toList = cpMany BB.data.toList m)) (fun _ y => 3 - (intOf y).toNat)
 case atStart => exact ⟨0, ByteArray.empty, rfl, rfl, by decide, by decide, rfl⟩
 case round =>
  obtain ⟨m, S, rfl, rfl, hm, hS, HS⟩ := hrel
  by_cases hlt : m < 3
  ·have tm : decide ((m : Int) < 3) = true := by simp; omega
   have HS2 : Hid ((S ++ BB).data.toList = cpMany BB.data.toList (m + 1)) := by
    show _ = _
    rw [ByteArray.data_append, Array.toList_append, HS.out]
    rfl
   go_wp2_with fail
   go_round
   case rel => exact ⟨m + 1, S ++ BB, by go_num, rfl, by omega, by rw [ByteArray.size_append]; omega, HS2⟩
   case measure => simp [intOf]; omega
  ·obtain rfl : m = 3 := by omega
   go_wp2_with fail
   refine (HF.out _ hB2).mono ?_
   rintro e w5 ⟨rfl, rfl⟩
   have hB5 : Below w.heap.size w (w2.alloc (.cells #[.int .i64 A, .int .i64 Bv] 3)) := hB2.alloc hB2.size _
   have a0 : (w2.alloc (.cells #[.int .i64 A, .int .i64 Bv] 3)).cell? ⟨w2.heap.size, 0, none⟩ = some (.int .i64 A) := by simp [go_sem]
   have a1 : (w2.alloc (.cells #[.int .i64 A, .int .i64 Bv] 3)).cell? ⟨w2.heap.size, 1, none⟩ = some (.int .i64 Bv) := by simp [go_sem]
   generalize w2.alloc (.cells #[.int .i64 A, .int .i64 Bv] 3) = W5 at *
   generalize w2.heap.size = g5 at *
   have hcv : (convert 26 9 (.slice (some ⟨W5.heap.size, 0, none⟩) 1 1)).run Try.prog (W5.alloc (.cells #[.int .u8 51] 5)) = .ok (.string ⟨#[51]⟩) (W5.alloc (.cells #[.int .u8 51] 5)) := conv_one W5 51
   have hg5 : g5 < W5.heap.size := World.block_lt_of_cell? W5 _ a0
   clear hB2
   go_upto_region 13 with fail
   have b0 : (W5.alloc (.cells #[.int .u8 51] 5)).cell? ⟨g5, 0, none⟩ = some (.int .i64 A) := (World.cell?_alloc_past _ _ _ hg5).trans a0
   have b1 : (W5.alloc (.cells #[.int .u8 51] 5)).cell? ⟨g5, 1, none⟩ = some (.int .i64 Bv) := (World.cell?_alloc_past _ _ _ hg5).trans a1
   have hB6 : Below w.heap.size w (W5.alloc (.cells #[.int .u8 51] 5)) := hB5.alloc hB5.size _
   generalize W5.alloc (.cells #[.int .u8 51] 5) = W6 at *
   clear a0 a1 hB5 hcv hg5
   have hs1 : ((⟨#[63, 97, 58, 45, 59, 63, 98, 58, 66, 59]⟩ : ByteArray) ++ ⟨#[42]⟩ ++ ⟨#[51]⟩ ++ ⟨#[123]⟩ ++ BB ++ ⟨#[125, 62, 45, 55, 59]⟩).size ≤ 400 := by
    simp only [ByteArray.size_append]
    have e1 : (⟨#[63, 97, 58, 45, 59, 63, 98, 58, 66, 59]⟩ : ByteArray).size = 10 := rfl
    have e2 : (⟨#[42]⟩ : ByteArray).size = 1 := rfl
    have e3 : (⟨#[51]⟩ : ByteArray).size = 1 := rfl
    have e4 : (⟨#[123]⟩ : ByteArray).size = 1 := rfl
    have e5 : (⟨#[125, 62, 45, 55, 59]⟩ : ByteArray).size = 5 := rfl
    omega
   have ht1 : ((⟨#[63, 97, 58, 45, 59, 63, 98, 58, 66, 59]⟩ : ByteArray) ++ ⟨#[42]⟩ ++ ⟨#[51]⟩ ++ ⟨#[123]⟩ ++ BB ++ ⟨#[125, 62, 45, 55, 59]⟩).data.toList = cpOne BB.data.toList 3 := by
    simp [ByteArray.data_append, cpOne, cpHead]
   have hs2 : ((⟨#[63, 97, 58, 45, 59, 63, 98, 58, 66, 59]⟩ : ByteArray) ++ S ++ ⟨#[62, 45, 55, 59]⟩).size ≤ 400 := by
    simp only [ByteArray.size_append]
    have e1 : (⟨#[63, 97, 58, 45, 59, 63, 98, 58, 66, 59]⟩ : ByteArray).size = 10 := rfl
    have e5 : (⟨#[62, 45, 55, 59]⟩ : ByteArray).size = 4 := rfl
    omega
   have ht2 : ((⟨#[63, 97, 58, 45, 59, 63, 98, 58, 66, 59]⟩ : ByteArray) ++ S ++ ⟨#[62, 45, 55, 59]⟩).data.toList = cpTwo BB.data.toList 3 := by
    simp only [ByteArray.data_append, Array.toList_append, HS.out]
    rfl
   have HR1 : Hid _ := fun w b0 b1 => run_known _ A Bv N w g5 hs1 hg0 hg1 b0 b1 (by rw [ht1]; exact R1.out)
   have HR2 : Hid _ := fun w b0 b1 => run_known _ A Bv M w g5 hs2 hg0 hg1 b0 b1 (by rw [ht2]; exact R2.out)
   clear ht1 ht2 hs1 hs2 R1 R2
   go_wp2_with fail
   refine (HR1.out _ b0 b1).mono ?_
   rintro e w7 ⟨⟨vn, rfl, _, hown1⟩, hb7⟩
   have hg5 : g5 < W6.heap.size := World.block_lt_of_cell? W6 _ b0
   rw [← hb7.cell (p := ⟨g5, 0, none⟩) hg5] at b0
   rw [← hb7.cell (p := ⟨g5, 1, none⟩) hg5] at b1
   have hB7 : Below w.heap.size w w7 := hB6.trans (hb7.mono hB6.size)
   clear hb7 hB6 hg5 HR1
   have HO1 : Hid (w7.ownsRow 0 34 5 vn N.length (ntCells N)) := ownsRow_base hown1 (Nat.zero_le _)
   clear hown1
   go_wp2_with fail
   refine (HR2.out _ b0 b1).mono ?_
   rintro e w8 ⟨⟨vm, rfl, _, hown2⟩, hb8⟩
   have HO2 : Hid (w8.ownsRow 0 34 5 vm M.length (ntCells M)) := ownsRow_base hown2 (Nat.zero_le _)
   have HO3 : Hid (w8.ownsRow 0 34 5 vn N.length (ntCells N)) := own_low HO1.out hb8 (Nat.le_refl _)
   have HB8 : Hid (Below w.heap.size w w8) := hB7.trans (hb8.mono hB7.size)
   clear hown2 hb8 hB7 HO1 HR2 b0 b1
   obtain ⟨hlen, hpt⟩ := notes_same hsame
   have hpos : 0 < N.length := by rw [hN]; simp
   obtain ⟨g1, c1, hv1⟩ := Joins.ownsRow_form HO3.out hpos
   obtain ⟨g2, c2, hv2⟩ := Joins.ownsRow_form HO2.out (by omega)
   subst hv1 hv2
   rw [← hlen] at HO2 ⊢
   obtain ⟨n1, hn1⟩ : ∃ n1, N.length = n1 + 1 := ⟨N.length - 1, by omega⟩
   have hmx : n1 + 1 ≤ 9223372036854775807 := by
    rcases HO3.out.2 with ⟨h0, _⟩ | ⟨g', cap', cur, hv, hb, hg, hnc, hcm, hcs, ht⟩
    ·cases h0
    ·cases hv
     unfold maxLen at hcm
     omega
   have HC1 : Hid (NotesC w8 g1 N) := notes_at HO3.out
   have HC2 : Hid (NotesC w8 g2 N) := notes_at2 HO2.out hlen hpt
   have HX7 : Hid (∀ hq : n1 < N.length, N[n1].val = ⟨7, 0⟩) := by
    intro hq
    have hL : L.length = n1 := by rw [hN] at hn1; simpa using hn1
    subst hL
    have e : N[L.length] = x := by
     have e1 : N[L.length]? = some x := by rw [hN]; simp
     rw [List.getElem?_eq_getElem hq] at e1
     exact Option.some.inj e1
    rw [e]
    exact hx7
   have HN1 : Hid (N.length = n1 + 1) := hn1
   rw [hn1]
   clear hN hx7 hsame hpt hlen hpos hn1 HO2 HO3
   have tz : (((n1 : Int) + 1) == 0) = false := by simp; omega
   go_wp2_with fail
   go_loopw [20] (fun x w' => ∃ q : Nat, x = .int .i64 q ∧ q ≤ n1 + 1 ∧ Hid (NotesC w' g1 N) ∧ Hid (NotesC w' g2 N) ∧ Hid (Below w.heap.size w w')) (fun x _ => n1 + 1 - (intOf x).toNat)
   case atStart => exact ⟨0, rfl, by omega, HC1, HC2, HB8⟩
   case round =>
    obtain ⟨q, rfl, hq, HC1, HC2, HB⟩ := hrel
    by_cases hql : q < n1 + 1
    ·have hqN : q < N.length := by rw [HN1.out]; exact hql
     obtain ⟨e0, e2, e3, e4⟩ := HC1.out q hqN
     obtain ⟨f0, f2, f3, f4⟩ := HC2.out q hqN
     generalize N[q] = y at *
     clear hqN
     go_upto_region 20 with fail
     go_quiet (fail)
     go_wp2_with fail
     go_roundw
     case rel => exact ⟨q + 1, by go_num, by omega, HC1.out.drewN _, HC2.out.drewN _, below_drewN HB.out _⟩
     case measure => simp [intOf]; omega
    ·obtain rfl : q = n1 + 1 := by omega
     obtain ⟨e0, e2, e3, e4⟩ := HC1.out n1 (by rw [HN1.out]; omega)
     rw [HX7.out] at e3 e4
     simp only at e3 e4
     go_wp2_with fail
     go_ret
     exact ⟨rfl, HB.out⟩
end Go.Proofs.Ytdgmoiflahoihab
