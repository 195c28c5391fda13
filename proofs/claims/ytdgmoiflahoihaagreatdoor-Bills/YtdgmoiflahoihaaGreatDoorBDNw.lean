import Derived.Test.YtdgmoiflahoihaaGreatDoorBDPw
import Derived.Test.YtdgmoiflahoihaaGreatDoorROpw
import Derived.Laws.Strings
import Derived.Deep.Upon

namespace Go.Proofs.YtdgmoiflahoihaaGreatDoor
open Go.RowKit
set_option linter.unusedSimpArgs false
set_option linter.unusedVariables false
theorem conv_byte (W : World) (n : Nat) (h : n < 256) : (convert 107 9 (.slice (some ⟨W.heap.size, 0, none⟩) 1 1)).run Tryz.prog (W.alloc (.cells #[.int .u8 (n : Int)] 5)) = .ok (.string ⟨#[UInt8.ofNat n]⟩) (W.alloc (.cells #[.int .u8 (n : Int)] 5)) := by
 refine run_convert_bytes_back (P := Tryz.prog) _ 107 9 5 ⟨W.heap.size, 0, none⟩ 1 [UInt8.ofNat n] Tryz.underlying107 Tryz.underlying5 Tryz.underlying9 ?_
 intro j hj
 match j, hj with
 | 0, _ =>
  have e : n % 256 = n := Nat.mod_eq_of_lt h
  simp [go_sem, Addr.add, e]
theorem decB_step {p : Nat} (h : 9 < p) : decB p = decB (p / 10) ++ [UInt8.ofNat (48 + p % 10)] := by rw [decB, dif_neg (by omega)]
theorem intB_len (x : Int) (h : -9223372036854775808 ≤ x ∧ x ≤ 9223372036854775807) : (intB x).length ≤ 20 := by
 have hlen := decB_len 18 x.natAbs (Nat.lt_of_le_of_lt (show x.natAbs ≤ 9223372036854775808 by omega) (by decide))
 unfold intB
 split
 ·simp only [List.length_cons]; omega
 ·omega
set_option maxRecDepth 100000 in
set_option maxHeartbeats 2000000 in
theorem refNum_any (n : Int) (hn : -9223372036854775808 ≤ n ∧ n ≤ 9223372036854775807) (w : World) :
  Calls Tryz.prog 23 #[.int .i64 n] w fun e w' => e = .returned (.string (txt (intB n))) ∧ Below w.heap.size w w' := by
 have HS : Hid (∀ w, Calls Tryz.prog 48 #[.int .i64 n] w fun e w' => e = .returned (.int .u64 (n.natAbs : Nat)) ∧ w' = w) := fun w => sized_any n hn w
 have hN : n.natAbs ≤ 9223372036854775808 := by omega
 have hlen := decB_len 18 n.natAbs (Nat.lt_of_le_of_lt hN (by decide))
 have HB : Hid (intB n = if n < 0 then 45 :: decB n.natAbs else decB n.natAbs) := rfl
 have HD : Hid (decB n.natAbs ++ [] = decB n.natAbs) := List.append_nil _
 generalize intB n = R at *
 generalize hD : decB n.natAbs = D at *
 rw [show Hid (D ++ [] = D) = Hid (decB n.natAbs ++ [] = D) by rw [hD]] at HD
 generalize n.natAbs = N at *
 clear hD
 go_enter Tryz.func23, Tryz.ntmps23
 go_wp2_with (go_at_call 48; refine (HS.out _).mono ?_; rintro e w1 ⟨rfl, hw1⟩; subst hw1)
 go_loopw [3, 4] (fun x y w' => ∃ (p : Nat) (S : List UInt8), x = .int .u64 p ∧ y = .string (txt S) ∧ p ≤ 9223372036854775808 ∧ Hid (decB p ++ S = D) ∧ Hid (Below w1.heap.size w1 w')) (fun x _ _ => (intOf x).toNat)
 case atStart => exact ⟨N, [], rfl, rfl, hN, HD, Below.refl _ _⟩
 case round =>
  obtain ⟨p, S, rfl, rfl, hp, HP, HW⟩ := hrel
  have hSl : S.length ≤ 19 := by have := congrArg List.length HP.out; rw [List.length_append] at this; omega
  have hT : (txt S).size ≤ 19 := hSl
  by_cases h9 : 9 < p
  ·have hd := HP.out
   rw [decB_step h9] at hd
   have hcv := conv_byte wr (48 + p % 10) (by omega)
   rw [show ((48 + p % 10 : Nat) : Int) = 48 + (p : Int) % 10 by omega] at hcv
   generalize UInt8.ofNat (48 + p % 10) = c at hcv hd
   have HE : Hid ((⟨#[c]⟩ : ByteArray) ++ txt S = txt (c :: S)) := txt_append [c] S
   have HN : Hid (decB (p / 10) ++ (c :: S) = D) := by show _ = _; rw [← hd]; simp
   clear hd
   go_wp2_with fail
   refine ⟨⟨p / 10, c :: S, by simp, by rw [HE.out], by omega, HN, HW.out.alloc HW.out.size _⟩, ?_⟩
   simp [intOf]
   omega
  ·have hd := HP.out
   rw [decB_small (by omega)] at hd
   have hcv := conv_byte wr (48 + p) (by omega)
   rw [show ((48 + p : Nat) : Int) = 48 + (p : Int) by omega] at hcv
   generalize UInt8.ofNat (48 + p) = c at hcv hd
   have HE : Hid ((⟨#[c]⟩ : ByteArray) ++ txt S = txt D) := by show _ = _; rw [← hd]; exact txt_append [c] S
   have hT2 : (txt D).size ≤ 19 := hlen
   have t9 : decide (9 < (p : Int)) = false := by rw [decide_eq_false_iff_not]; omega
   clear hd HP HD
   by_cases hneg : n < 0
   ·have tn : decide (n < 0) = true := decide_eq_true hneg
    have HR : Hid ((⟨#[45]⟩ : ByteArray) ++ txt D = txt R) := by show _ = _; rw [HB.out, if_pos hneg]; exact txt_append [45] D
    go_wp2_with fail
    go_ret
    refine ⟨?_, HW.out.alloc HW.out.size _⟩
    rw [← HR.out, ← HE.out]
    rfl
   ·have tn : decide (n < 0) = false := decide_eq_false hneg
    have HR : Hid (R = D) := by show _ = _; rw [HB.out, if_neg hneg]
    go_wp2_with fail
    go_ret
    refine ⟨?_, HW.out.alloc HW.out.size _⟩
    rw [HR.out, ← HE.out]
    rfl
theorem refWorth_any (v : Vl) (hv : (-9223372036854775808 ≤ v.num ∧ v.num ≤ 9223372036854775807) ∧ (-9223372036854775808 ≤ v.fault ∧ v.fault ≤ 9223372036854775807)) (w : World) :
  Calls Tryz.prog 24 #[vlV v] w fun e w' => e = .returned (.string (txt (worthB v))) ∧ Below w.heap.size w w' := by
 obtain ⟨num, fault⟩ := v
 obtain ⟨h1, h2⟩ := hv
 simp only at h1 h2
 have HN : Hid (∀ w, Calls Tryz.prog 23 #[.int .i64 num] w fun e w' => e = .returned (.string (txt (intB num))) ∧ Below w.heap.size w w') := fun w => refNum_any num h1 w
 have HF : Hid (∀ w, Calls Tryz.prog 23 #[.int .i64 fault] w fun e w' => e = .returned (.string (txt (intB fault))) ∧ Below w.heap.size w w') := fun w => refNum_any fault h2 w
 have hlf := intB_len fault h2
 have hB0 : Below w.heap.size w (w.alloc (.cells #[.int .i64 num, .int .i64 fault] 59)) := (Below.refl _ _).alloc (Nat.le_refl _) _
 by_cases h0 : fault = 0
 ·have hw : worthB ⟨num, fault⟩ = intB num := by unfold worthB; rw [if_neg (by simpa using h0)]
  rw [hw]
  clear hw HF hlf h2
  subst h0
  go_enter Tryz.func24, Tryz.ntmps24
  go_wp2_with (go_at_call 23; refine (HN.out _).mono ?_; rintro e w1 ⟨rfl, hb1⟩; have HB : Hid (Below w.heap.size w w1) := hB0.trans (hb1.mono (by simp)); clear hb1)
  go_ret
  exact ⟨rfl, HB.out⟩
 ·have hw : txt (worthB ⟨num, fault⟩) = ⟨#[33]⟩ ++ txt (intB fault) := by
   unfold worthB
   rw [if_pos h0]
   exact (txt_append [33] (intB fault)).symm
  rw [hw]
  have t0 : (fault != 0) = true := by simp [h0]
  have hT : (txt (intB fault)).size ≤ 20 := hlf
  generalize txt (intB fault) = T at *
  clear hw h0 hlf
  go_enter Tryz.func24, Tryz.ntmps24
  go_wp2_with (go_at_call 23; refine (HF.out _).mono ?_; rintro e w1 ⟨rfl, hb1⟩; have HB : Hid (Below w.heap.size w w1) := hB0.trans (hb1.mono (by simp)); clear hb1)
  go_ret
  exact ⟨rfl, HB.out⟩
end Go.Proofs.YtdgmoiflahoihaaGreatDoor
