import Derived.Test.YtdgmoiflahoihabLSWw

namespace Go.Proofs.Ytdgmoiflahoihab
open Go.RowKit
set_option linter.unusedSimpArgs false
set_option linter.unusedVariables false
theorem labB_short : ∀ L, L < 16 → (labB L).length ≤ 4 := by decide
def declP (t : List UInt8) (R : List Nat) : List UInt8 := preB (psL (standP t) R) ++ t
set_option maxRecDepth 100000 in
set_option maxHeartbeats 2000000 in
theorem declared_any (s : ByteArray) (R : List Nat) (w : World) (hs : s.size ≤ 2000000) (hR : R.length = 26) (h16 : ∀ i, R.getD i 0 < 16) :
  Calls Try.prog 18 #[.string s, .agg (arrV R)] w fun e w' => e = .returned (.string ⟨(declP s.data.toList R).toArray⟩) ∧ Below w.heap.size w w' := by
 have HST : Hid (∀ w, Calls Try.prog 19 #[.string s] w fun e w' => e = .returned (.int .i64 (standP s.data.toList : Nat)) ∧ Below w.heap.size w w') := fun w => standing_any s w hs
 have HLB : Hid (∀ (L : Nat) (w : World), L < 16 → Calls Try.prog 29 #[.int .i64 (L : Int)] w fun e w' => e = .returned (.string (labS L)) ∧ Below w.heap.size w w') := fun L w h => label_any L h w
 have hst := standP_lt s.data.toList
 have HP : Hid (declP s.data.toList R = ([] ++ preB (psF (standP s.data.toList) R (26 - 0) 0)) ++ s.data.toList) := rfl
 generalize standP s.data.toList = st at *
 generalize declP s.data.toList R = D at *
 have HR : Hid (R.length = 26) := hR
 have hsz : (arrV R).size = 26 := by simp [arrV, hR]
 have hBX := BoxAt.new w R
 have hBW := (Below.refl w.heap.size w).alloc (Nat.le_refl _) (.cells (arrV R) 46)
 clear hR
 go_enter Try.func18, Try.ntmps18
 go_wp2_with (first | (go_at_call 19; refine (HST.out _).mono ?_; rintro e w1 ⟨rfl, hb1⟩; have hX := hBX.below hb1; have hb := hBW.trans (hb1.mono (by simp)); have HX : Hid (BoxAt w1 w.heap.size R) := hX; have HB : Hid (Below w.heap.size w w1) := hb; clear hb1 hX hb hBX hBW))
 go_loopw [6, 7] (fun x y w' => ∃ (k : Nat) (S : ByteArray), x = .string S ∧ y = .int .i64 k ∧ k ≤ 26 ∧ S.size ≤ 8 * k ∧ Hid (D = (S.data.toList ++ preB (psF st R (26 - k) k)) ++ s.data.toList) ∧ Hid (BoxAt w' w.heap.size R) ∧ Hid (Below w.heap.size w w')) (fun _ y _ => 26 - (intOf y).toNat)
 case atStart => exact ⟨0, ByteArray.empty, rfl, rfl, by omega, by decide, HP, HX, HB⟩
 case round =>
  obtain ⟨k, S, rfl, rfl, hk, hS, HD, HX, HW⟩ := hrel
  by_cases hlt : k < 26
  ·have hap := lsand_pow st k hst (by omega)
   have hd := HD.out
   rw [show 26 - k = (26 - (k + 1)) + 1 by omega] at hd
   unfold psF at hd
   cases hb : st.testBit k
   ·rw [hb] at hd
    have tb : (bits .and .i64 (st : Int) (wrap64 (2 ^ k)) == 0) = true := by rw [hap, (and_bit st k).mpr hb]; rfl
    have hcell := HX.out.cell k (by rw [HR.out]; exact hlt)
    have hL := h16 k
    simp only [Bool.false_eq_true, if_false, preB, hdB] at hd
    generalize hq : R.getD k 0 = L at hcell hL hd
    have hsh := labB_short L hL
    have HN : Hid (D = ((((((S ++ ⟨#[33]⟩) ++ ⟨#[UInt8.ofNat (97 + k)]⟩) ++ ⟨#[58]⟩) ++ labS L) ++ ⟨#[59]⟩).data.toList ++ preB (psF st R (26 - (k + 1)) (k + 1))) ++ s.data.toList) := by
     show _ = _
     rw [hd]
     simp [ByteArray.data_append, labS]
    have hls : (labS L).size ≤ 4 := hsh
    have HCV : Hid (∀ W : World, (convert 26 9 (.slice (some ⟨W.heap.size, 0, none⟩) 1 1)).run Try.prog (W.alloc (.cells #[.int .u8 (97 + (k : Int))] 5)) = .ok (.string ⟨#[UInt8.ofNat (97 + k)]⟩) (W.alloc (.cells #[.int .u8 (97 + (k : Int))] 5))) := fun W => by
     have := conv_byte W (97 + k) (by omega)
     rw [show ((97 + k : Nat) : Int) = 97 + (k : Int) by omega] at this
     exact this
    generalize UInt8.ofNat (97 + k) = c at HN HCV
    have HLL : Hid (∀ w, Calls Try.prog 29 #[.int .i64 (L : Int)] w fun e w' => e = .returned (.string (labS L)) ∧ Below w.heap.size w w') := fun w => HLB.out L w hL
    generalize labS L = T at *
    clear hap hd hb hq hsh
    go_upto_region 8 with (first | (go_at_call 29; refine (HLL.out _).mono ?_; rintro e w2 ⟨rfl, hb2⟩; have HX2 : Hid (BoxAt w2 w.heap.size R) := HX.out.below hb2; have HW2 : Hid (Below w.heap.size w w2) := HW.out.trans (hb2.mono HW.out.size); clear hb2))
    have hcv := HCV.out w2
    go_wp2_with fail
    go_roundw
    case rel => exact ⟨k + 1, _, rfl, by go_num, by omega, by simp only [ByteArray.size_append]; show S.size + 1 + 1 + 1 + T.size + 1 ≤ _; omega, HN, HX2.out.below ((Below.refl _ _).alloc (Nat.le_refl _) _), HW2.out.alloc HW2.out.size _⟩
    case measure => simp [intOf]; omega
   ·rw [hb] at hd
    have tb : (bits .and .i64 (st : Int) (wrap64 (2 ^ k)) == 0) = false := by
     rw [hap]
     have : ¬ (st &&& 2 ^ k = 0) := fun e => by rw [(and_bit st k).mp e] at hb; cases hb
     rw [beq_eq_false_iff_ne]
     omega
    have HN : Hid (D = (S.data.toList ++ preB (psF st R (26 - (k + 1)) (k + 1))) ++ s.data.toList) := by show _ = _; simpa using hd
    clear hap hd hb
    go_wp2_with fail
    go_roundw
    case rel => exact ⟨k + 1, S, rfl, by go_num, by omega, by omega, HN, HX, HW⟩
    case measure => simp [intOf]; omega
  ·have HF : Hid (D = S.data.toList ++ s.data.toList) := by
    have := HD.out
    rw [show 26 - k = 0 by omega] at this
    show _ = _
    simpa [psF, preB] using this
   have EF : Hid ((⟨D.toArray⟩ : ByteArray) = S ++ s) := by
    show _ = _
    rw [HF.out]
    exact (arr_of_list (by rw [ByteArray.data_append, Array.toList_append])).symm
   go_wp2_with fail
   go_ret
   exact ⟨by rw [EF.out]; rfl, HW.out⟩
end Go.Proofs.Ytdgmoiflahoihab
