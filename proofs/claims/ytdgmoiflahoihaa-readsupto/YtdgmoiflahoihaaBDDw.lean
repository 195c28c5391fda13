import Derived.Test.YtdgmoiflahoihaaBDNw

namespace Go.Proofs.Ytdgmoiflahoihaa
open Go.RowKit
set_option linter.unusedSimpArgs false
set_option linter.unusedVariables false
theorem isDg_dig (c : UInt8) : isDg (c.toNat : Int) = isDig c := by
 unfold isDg isDig
 rw [Bool.eq_iff_iff]
 simp only [Bool.and_eq_true, decide_eq_true_eq, UInt8.le_iff_toNat_le]
 have a1 : (48 : UInt8).toNat = 48 := rfl
 have a2 : (57 : UInt8).toNat = 57 := rfl
 rw [a1, a2]
 omega
theorem bdrop (s : ByteArray) (k : Nat) (h : k < s.size) : s.data.toList.drop k = s[k] :: s.data.toList.drop (k + 1) := by
 rw [List.drop_eq_getElem_cons (by simpa using h)]
 rfl
theorem digits_from (s : ByteArray) (m : Bool) (i0 : Nat) (hi0 : i0 = if m then 1 else 0) (hs : s.size ≤ 2000000) (h1 : i0 < s.size) (h2 : s.size - i0 ≤ 19) :
  digU (s.data.toList.drop i0) m = digF (foldU 0 (s.data.toList.drop i0)) m := by
 have hl : (s.data.toList.drop i0).length = s.size - i0 := by simp
 unfold digU
 rw [if_neg (by omega)]
set_option maxRecDepth 100000 in
set_option maxHeartbeats 4000000 in
theorem refDig_any (s : ByteArray) (w : World) (hs : s.size ≤ 2000000) :
  Calls Try.prog 98 #[.string s] w fun e w' => e = .returned (.tuple #[.int .i64 (digV s.data.toList).1, .bool (digV s.data.toList).2]) ∧ w' = w := by
 by_cases h0 : s.size = 0
 ·obtain rfl : s = ⟨#[]⟩ := by
   obtain ⟨d⟩ := s
   have : d = #[] := Array.eq_empty_of_size_eq_zero h0
   rw [this]
  go_enter Try.func98, Try.ntmps98
  go_wp2_with (go_at_call 121; refine (one_any _ _).mono ?_; rintro e w1 ⟨rfl, hw1⟩; subst hw1)
  go_ret2
  exact ⟨rfl, rfl⟩
 ·have hpos : 0 < s.size := by omega
  have hd := bdrop s 0 hpos
  rw [List.drop_zero] at hd
  have t0 : decide ((0 : Int) < (s.size : Int)) = true := by rw [decide_eq_true_iff]; omega
  generalize hm : decide (s[0] = 45) = m
  generalize hi0 : (if m then 1 else 0 : Nat) = i0
  have hV : digV s.data.toList = digU (s.data.toList.drop i0) m := by
   rw [hd]
   unfold digV
   simp only
   subst hi0
   cases m
   ·rw [if_neg (by simpa using hm)]
    rfl
   ·rw [if_pos (by simpa using hm)]
    rfl
  have tm : ((s[0].toNat : Int) == 45) = m := by
   rw [← hm, Bool.eq_iff_iff, decide_eq_true_iff, beq_iff_eq]
   constructor
   ·intro e; exact UInt8.toNat_inj.mp (by have a1 : (45 : UInt8).toNat = 45 := rfl; omega)
   ·intro e; rw [e]; rfl
  have hi1 : i0 ≤ 1 := by subst hi0; split <;> omega
  have HO : Hid (∀ w, Calls Try.prog 121 #[.bool m] w fun e w' => e = .returned (.int .i64 (i0 : Nat)) ∧ w' = w) := fun w => by
   have := one_any m w
   have e : (if m then (1 : Int) else 0) = ((i0 : Nat) : Int) := by subst hi0; cases m <;> rfl
   rw [e] at this
   exact this
  have HI : Hid (i0 = if m then 1 else 0) := hi0.symm
  rw [hV]
  clear hd hV hm hi0
  by_cases hc : i0 ≥ s.size ∨ 19 < s.size - i0
  ·have hU : digU (s.data.toList.drop i0) m = (0, false) := by
    have hl : (s.data.toList.drop i0).length = s.size - i0 := by simp
    unfold digU
    rw [if_pos (by omega)]
   rw [hU]
   clear hU
   by_cases hc1 : s.size ≤ i0
   ·have t1 : decide ((s.size : Int) ≤ (i0 : Int)) = true := by rw [decide_eq_true_iff]; omega
    go_enter Try.func98, Try.ntmps98
    go_wp2_with (go_at_call 121; refine (HO.out _).mono ?_; rintro e w1 ⟨rfl, hw1⟩; subst hw1)
    go_ret2
    exact ⟨rfl, rfl⟩
   ·have t1 : decide ((s.size : Int) ≤ (i0 : Int)) = false := by rw [decide_eq_false_iff_not]; omega
    have t2 : decide ((19 : Int) < (s.size : Int) - (i0 : Int)) = true := by rw [decide_eq_true_iff]; omega
    go_enter Try.func98, Try.ntmps98
    go_wp2_with (go_at_call 121; refine (HO.out _).mono ?_; rintro e w1 ⟨rfl, hw1⟩; subst hw1)
    go_ret2
    exact ⟨rfl, rfl⟩
  ·have g1 : i0 < s.size := by omega
   have g2 : s.size - i0 ≤ 19 := by omega
   rw [digits_from s m i0 HI.out hs g1 g2]
   have t1 : decide ((s.size : Int) ≤ (i0 : Int)) = false := by rw [decide_eq_false_iff_not]; omega
   have t2 : decide ((19 : Int) < (s.size : Int) - (i0 : Int)) = false := by rw [decide_eq_false_iff_not]; omega
   have t3 : decide (s.size ≤ i0) = false := by rw [decide_eq_false_iff_not]; omega
   have HF : Hid (foldU 0 (s.data.toList.drop i0) = foldU 0 (s.data.toList.drop i0)) := rfl
   generalize hFF : foldU 0 (s.data.toList.drop i0) = F
   have HFF : Hid (foldU 0 (s.data.toList.drop i0) = F) := hFF
   clear hFF HF
   have HP : Hid (∀ k : Nat, k ≤ 19 → (10 : Nat) ^ k ≤ 10000000000000000000) := fun k hk => Nat.le_trans (Nat.pow_le_pow_right (by decide) hk) (by decide)
   generalize hRR : digF F m = RR
   have HRR : Hid (digF F m = RR) := hRR
   clear hRR
   go_enter Try.func98, Try.ntmps98
   go_wp2_with (go_at_call 121; refine (HO.out _).mono ?_; rintro e w1 ⟨rfl, hw1⟩; subst hw1)
   go_loopw [5, 6] (fun x y w' => ∃ i n : Nat, x = .int .i64 i ∧ y = .int .u64 n ∧ i0 ≤ i ∧ i ≤ s.size ∧ w' = w1 ∧ Hid (n < 10 ^ (i - i0)) ∧ Hid (foldU n (s.data.toList.drop i) = F)) (fun x _ _ => s.size - (intOf x).toNat)
   case atStart => exact ⟨i0, 0, rfl, rfl, Nat.le_refl _, by omega, rfl, by show 0 < 10 ^ (i0 - i0); rw [Nat.sub_self]; decide, HFF⟩
   case round =>
    obtain ⟨i, n, rfl, rfl, hi, his, rfl, HN, HL⟩ := hrel
    by_cases hlt : i < s.size
    ·have hL := HL.out
     rw [bdrop s i hlt] at hL
     unfold foldU at hL
     have hby := s[i].toNat_lt
     have HG : Hid (∀ w, Calls Try.prog 84 #[.int .i64 s[i].toNat] w fun e w' => e = .returned (.bool (isDig s[i])) ∧ w' = w) := fun w => by have := isDg_any (s[i].toNat : Int) w; rw [isDg_dig] at this; exact this
     have hn18 : n < 1000000000000000000 := by
      have h1 := HN.out
      have h2 : (10 : Nat) ^ (i - i0) ≤ 10 ^ 18 := Nat.pow_le_pow_right (by decide) (by omega)
      have h3 : (10 : Nat) ^ 18 = 1000000000000000000 := by decide
      omega
     cases hdg : isDig s[i]
     ·rw [hdg] at hL HG
      simp only [Bool.false_eq_true, if_false] at hL
      have hR : RR = (0, false) := by rw [← HRR.out, ← hL]; rfl
      subst hR
      clear hL
      go_wp2_with (go_at_call 84; refine (HG.out _).mono ?_; rintro e w2 ⟨rfl, hw2⟩; subst hw2)
      go_ret2
      exact ⟨rfl, rfl⟩
     ·rw [hdg] at hL HG
      simp only [if_true] at hL
      obtain ⟨dd, f1, f2, f3⟩ := dig_back hdg
      rw [f3] at hL
      have f4 : s[i].toNat = 48 + dd := by
       have := hdg
       unfold isDig at this
       rw [Bool.and_eq_true, decide_eq_true_eq, UInt8.le_iff_toNat_le] at this
       have a1 : (48 : UInt8).toNat = 48 := rfl
       rw [a1] at this
       omega
      have HN2 : Hid (10 * n + dd < 10 ^ (i + 1 - i0)) := by
       have h1 := HN.out
       show _ < _
       rw [show i + 1 - i0 = (i - i0) + 1 by omega, Nat.pow_succ]
       omega
      have HL2 : Hid (foldU (10 * n + dd) (s.data.toList.drop (i + 1)) = F) := hL
      have HG2 : Hid (∀ w, Calls Try.prog 84 #[.int .i64 (48 + (dd : Int))] w fun e w' => e = .returned (.bool true) ∧ w' = w) := fun w => by
       have := isDg_any (48 + (dd : Int)) w
       rw [show isDg (48 + (dd : Int)) = true by unfold isDg; simp; omega] at this
       exact this
      clear hL f2 HG
      go_wp2_with (go_at_call 84; refine (HG2.out _).mono ?_; rintro e w2 ⟨rfl, hw2⟩; subst hw2)
      go_roundw
      case rel => exact ⟨i + 1, 10 * n + dd, by go_num, by go_num, by omega, by omega, by trivial, HN2, HL2⟩
      case measure => simp [intOf]; omega
    ·have hL := HL.out
     rw [List.drop_of_length_le (by simp; omega)] at hL
     have hR : sgnV n m = RR := by rw [← HRR.out, ← hL]; rfl
     have hn19 : n < 18446744073709551616 := by
      have h1 := HN.out
      have h2 := HP.out (i - i0) (by omega)
      omega
     have HSG : Hid (∀ w, Calls Try.prog 126 #[.int .u64 n, .bool m] w fun e w' => e = .returned (.tuple #[.int .i64 RR.1, .bool RR.2]) ∧ w' = w) := fun w => by rw [← hR]; exact signed_any n m (by omega) (by omega) w
     clear hL hR
     go_wp2_with (go_at_call 126; refine (HSG.out _).mono ?_; rintro e w2 ⟨rfl, hw2⟩; subst hw2)
     go_ret2
     exact ⟨rfl, rfl⟩
end Go.Proofs.Ytdgmoiflahoihaa
