import Derived.Test.YtdgmoiflahoihaaGreatRAV3

namespace Go.Proofs.YtdgmoiflahoihaaGreat
open Go.RowKit
set_option linter.unusedSimpArgs false
set_option linter.unusedVariables false


theorem dg_range {c : UInt8} (h : dgB c = true) : 48 ≤ c.toNat ∧ c.toNat ≤ 57 := by
  unfold dgB at h
  simp at h
  exact h

theorem seg_mem {C : List UInt8} {lo hi i : Nat} (h0 : lo ≤ i) (h1 : i < hi) (hh : hi ≤ C.length) : C[i]'(by omega) ∈ seg C lo hi := by
  unfold seg
  rw [List.mem_iff_getElem]
  refine ⟨i - lo, by simp; omega, ?_⟩
  simp only [List.getElem_take, List.getElem_drop]
  congr 1
  omega

set_option maxRecDepth 100000 in
set_option maxHeartbeats 4000000 in
theorem v_number {b gw : Nat} {C : List UInt8} {A : List Int} {names : List Vl} {lo hi : Nat} (hl : lo < hi) (hh : hi ≤ C.length) (hs : splitC C lo hi = -1) (hd : ∀ c ∈ seg C lo hi, dgB c = true) (h18 : hi ≤ lo + 18) : ValGives b gw C A names lo hi ⟨numC (seg C lo hi) 0, 0⟩ := by
  have HD : Hid (∀ i, lo ≤ i → ∀ h : i < hi, ∃ e : Nat, (C[i]'(by omega)).toNat = e + 48 ∧ e ≤ 9) := fun i h0 h1 => by
    have := dg_range (hd _ (seg_mem h0 h1 hh))
    exact ⟨(C[i]'(by omega)).toNat - 48, by omega, by omega⟩
  generalize hR : numC (seg C lo hi) 0 = R
  have HR : Hid (numC (seg C lo hi) 0 = R) := hR
  clear hd hR
  intro w hB hV
  have hlt := World.block_lt_of_cell? w _ (show w.cell? ⟨b, 0, none⟩ = _ from hB.here.choose_spec.choose_spec.choose_spec.choose_spec.choose_spec.choose_spec.1)
  have hgl := hV.lt
  have hBb : Below w.heap.size w (w.alloc (.cells #[.int .i64 0, .int .i64 0] 47)) := (Below.refl _ _).alloc (Nat.le_refl _) _
  have hRes : ResAt (w.alloc (.cells #[.int .i64 0, .int .i64 0] 47)) w.heap.size := ⟨by simp [go_sem], by simp [go_sem], fun o => by simp [go_sem]⟩
  have hsz : (w.alloc (.cells #[.int .i64 0, .int .i64 0] 47)).heap.size = w.heap.size + 1 := by simp
  have hBW := hB.below hBb
  have hVW := hV.below hBb
  clear hB hV
  go_enter Tryz.func39, Tryz.ntmps39
  go_upto_region 1 with fail
  generalize (w.alloc (.cells #[.int .i64 0, .int .i64 0] 47)) = W at *
  have HBW : Hid (BookAt W b C A) := hBW
  have HVW : Hid (ValsAt W gw names) := hVW
  have HBb : Hid (Below w.heap.size w W) := hBb
  have HRes : Hid (ResAt W w.heap.size) := hRes
  have HSP : Hid (Calls Tryz.prog 60 #[.pointer (some ⟨b, 0, none⟩), .int .i64 lo, .int .i64 hi] W fun e w' => e = .returned (.int .i64 (splitC C lo hi)) ∧ w' = W) := split_any b lo hi C A W hBW (by omega) hh
  rw [hs] at HSP
  obtain ⟨hC, hA, ac, aa, bc, ba, capc, capa, h0, h1, hcc, ha⟩ := hBW
  have HCC : Hid _ := hcc
  obtain ⟨rfl, hck⟩ := hcc lo (by omega)
  obtain ⟨e, he, he9⟩ := HD.out lo (Nat.le_refl _) hl
  rw [he, show ((e + 48 : Nat) : Int) = (e : Int) + 48 by omega] at hck
  have HI : Hid (∀ w, Calls Tryz.prog 61 #[.int .i64 ((e : Int) + 48)] w fun e w' => e = .returned (.bool false) ∧ w' = w) := fun w => by
    have k := isNm_any ((e : Int) + 48) w
    have e : isNm ((e : Int) + 48) = false := by unfold isNm; simp; omega
    rw [e] at k
    exact k
  have t45 : ((e : Int) + 48 == 45) = false := by rw [beq_eq_false_iff_ne]; omega
  have t40 : ((e : Int) + 48 == 40) = false := by rw [beq_eq_false_iff_ne]; omega
  obtain ⟨s0, s1, sf⟩ := hRes
  have hwp : wrap64 ((e : Int) + 48) = (e : Int) + 48 := by unfold wrap64; omega
  clear hcc ha hBb hVW hs he h1
  go_wp2_with (first | (go_at_call 60; refine HSP.out.mono ?_; rintro e1 w1 ⟨rfl, hw1⟩; rw [hw1]; clear hw1) | (go_at_call 61; refine (HI.out _).mono ?_; rintro e1 w1 ⟨rfl, hw1⟩; rw [hw1]; clear hw1))
  go_loopw [14, 15] (fun x y w' => ∃ i n : Nat, y = .int .i64 i ∧ x = .int .i64 n ∧ w' = W ∧ lo ≤ i ∧ i ≤ hi ∧ Hid (n < 10 ^ (i - lo)) ∧ Hid (numC (seg C i hi) (n : Int) = R)) (fun _ y _ => hi - (intOf y).toNat)
  case atStart => exact ⟨lo, 0, rfl, rfl, rfl, Nat.le_refl _, Nat.le_of_lt hl, by show 0 < 10 ^ (lo - lo); rw [Nat.sub_self]; decide, HR⟩
  case round =>
    clear hwp
    obtain ⟨i, n, rfl, rfl, hw, hi0, hi1, HP, HM⟩ := hrel
    subst hw
    by_cases hlt2 : i < hi
    · have tk : decide ((i : Int) < (hi : Int)) = true := by simp; omega
      obtain ⟨_, hci⟩ := HCC.out i (by omega)
      obtain ⟨f, hf, hf9⟩ := HD.out i hi0 hlt2
      have HM2 : Hid (numC (seg C (i + 1) hi) ((10 * n + f : Nat) : Int) = R) := by
        have q := HM.out
        rw [seg_cons hlt2 hh] at q
        simp only [numC] at q
        rw [hf, show (10 * (n : Int) + (((f + 48 : Nat) : Int) - 48)) = ((10 * n + f : Nat) : Int) by omega] at q
        exact q
      have HP2 : Hid (10 * n + f < 10 ^ (i + 1 - lo)) := by
        have q := HP.out
        show _ < _
        rw [show i + 1 - lo = i - lo + 1 by omega, Nat.pow_succ]
        generalize 10 ^ (i - lo) = P at *
        omega
      have hn17 : n < 100000000000000000 := by
        have q := HP.out
        have := Nat.pow_le_pow_right (show 0 < 10 by decide) (show i - lo ≤ 17 by omega)
        exact Nat.lt_of_lt_of_le q (Nat.le_trans this (by decide))
      rw [hf, show ((f + 48 : Nat) : Int) = (f : Int) + 48 by omega] at hci
      clear hck hf
      go_wp2_with fail
      go_roundw
      case rel => exact ⟨i + 1, 10 * n + f, by go_num, by go_num, by trivial, by omega, by omega, HP2, HM2⟩
      case measure => simp [intOf]; omega
    · have tk : decide ((i : Int) < (hi : Int)) = false := by simp; omega
      have hR : (n : Int) = R := by
        have q := HM.out
        rw [seg_nil (by omega)] at q
        exact q
      go_wp2_with fail
      refine bodyPost_ret (v := vlV ⟨R, 0⟩) (by simp [results, Tryz.results39, go_sem, s0, s1, sf, hR]) rfl ⟨rfl, ?_⟩
      exact (HBb.out.setCell (by simp) _).setCell (by simp) _

end Go.Proofs.YtdgmoiflahoihaaGreat
