import Derived.Test.YtdgmoiflahoihaaGreatDoorPlainw
import Derived.Test.YtdgmoiflahoihaaGreatDoorFNextw

namespace Go.Proofs.YtdgmoiflahoihaaGreatDoor
open Go.RowKit
set_option linter.unusedSimpArgs false
set_option linter.unusedVariables false
theorem ret_int {k : IntKind} {a b : Int} (h : a = b) : Ending.returned (.int k a) = .returned (.int k b) := by rw [h]
structure BookAt (w : World) (b : Nat) (C : List UInt8) (A : List Int) : Prop where
 small : C.length ≤ 400
 same : A.length = C.length
 here : ∃ (ac aa : Option Addr) (bc ba capc capa : Nat), w.cell? ⟨b, 0, none⟩ = some (.slice ac C.length capc) ∧ w.cell? ⟨b, 1, none⟩ = some (.slice aa C.length capa) ∧
  (∀ i, ∀ h : i < C.length, ac = some ⟨bc, 0, none⟩ ∧ w.cell? ⟨bc, i, none⟩ = some (.int .u8 C[i].toNat)) ∧
  (∀ i, ∀ h : i < A.length, aa = some ⟨ba, 0, none⟩ ∧ w.cell? ⟨ba, i, none⟩ = some (.int .i64 A[i]))
set_option maxHeartbeats 1000000 in
theorem shut_any (b i : Nat) (C : List UInt8) (A : List Int) (w : World) (hb : BookAt w b C A) (hi : i ≤ 1000) :
  Calls Tryz.prog 111 #[.pointer (some ⟨b, 0, none⟩), .int .i64 i] w fun e w' => e = .returned (.int .i64 (shutC C i)) ∧ w' = w := by
 obtain ⟨hC, hA, ac, aa, bc, ba, capc, capa, h0, h1, hc, ha⟩ := hb
 go_enter Tryz.func111, Tryz.ntmps111
 go_wp2
 go_loop [5, 6] (fun n k => ∃ (kk : Nat) (nn : Int), k = .int .i64 kk ∧ n = .int .i64 nn ∧ i ≤ kk ∧ (i ≤ C.length → kk ≤ C.length) ∧ -(kk - i : Int) ≤ nn ∧ nn ≤ kk - i ∧ (C.length < i → kk = i) ∧ Hid (shutR (C.drop kk) nn kk = shutR (C.drop i) 0 i)) (fun _ k => C.length - (intOf k).toNat)
 case atStart => exact ⟨i, 0, rfl, rfl, by omega, by omega, by omega, by omega, by omega, rfl⟩
 case round =>
  obtain ⟨k, n, rfl, rfl, hk0, hk1, hn0, hn1, hk2, HS⟩ := hrel
  by_cases hlt : k < C.length
  ·obtain ⟨rfl, hck⟩ := hc k hlt
   rcases dl_cases C[k] with ⟨t1, hd⟩ | ⟨t1, t2, hd⟩ | ⟨t1, t2, t3, hd⟩ | ⟨t1, t2, t3, t4, hd⟩ | ⟨t1, t2, t3, t4, hd⟩
   ·
    have Hd : Hid (dl C[k] = 1) := hd
    clear hd
    cases e0 : (n + 1 == 0)
    ·have h0 : ¬ n + (1) = 0 := by have := ne_of_beq_false e0; omega
     go_wp2
     exact ⟨⟨k + 1, _, by go_num, rfl, by omega, by omega, by omega, by omega, by omega, shut_step hlt HS.out Hd.out h0⟩, by simp [intOf]; omega⟩
    ·have h0 : n + (1) = 0 := by have := eq_of_beq e0; omega
     go_wp2
     go_ret
     exact ⟨ret_int (shut_stop hlt hk0 HS.out Hd.out h0), rfl⟩
   ·
    have Hd : Hid (dl C[k] = 1) := hd
    clear hd
    cases e0 : (n + 1 == 0)
    ·have h0 : ¬ n + (1) = 0 := by have := ne_of_beq_false e0; omega
     go_wp2
     exact ⟨⟨k + 1, _, by go_num, rfl, by omega, by omega, by omega, by omega, by omega, shut_step hlt HS.out Hd.out h0⟩, by simp [intOf]; omega⟩
    ·have h0 : n + (1) = 0 := by have := eq_of_beq e0; omega
     go_wp2
     go_ret
     exact ⟨ret_int (shut_stop hlt hk0 HS.out Hd.out h0), rfl⟩
   ·
    have Hd : Hid (dl C[k] = -1) := hd
    clear hd
    cases e0 : (n - 1 == 0)
    ·have h0 : ¬ n + (-1) = 0 := by have := ne_of_beq_false e0; omega
     go_wp2
     exact ⟨⟨k + 1, _, by go_num, rfl, by omega, by omega, by omega, by omega, by omega, shut_step hlt HS.out Hd.out h0⟩, by simp [intOf]; omega⟩
    ·have h0 : n + (-1) = 0 := by have := eq_of_beq e0; omega
     go_wp2
     go_ret
     exact ⟨ret_int (shut_stop hlt hk0 HS.out Hd.out h0), rfl⟩
   ·
    have Hd : Hid (dl C[k] = -1) := hd
    clear hd
    cases e0 : (n - 1 == 0)
    ·have h0 : ¬ n + (-1) = 0 := by have := ne_of_beq_false e0; omega
     go_wp2
     exact ⟨⟨k + 1, _, by go_num, rfl, by omega, by omega, by omega, by omega, by omega, shut_step hlt HS.out Hd.out h0⟩, by simp [intOf]; omega⟩
    ·have h0 : n + (-1) = 0 := by have := eq_of_beq e0; omega
     go_wp2
     go_ret
     exact ⟨ret_int (shut_stop hlt hk0 HS.out Hd.out h0), rfl⟩
   ·
    have Hd : Hid (dl C[k] = 0) := hd
    clear hd
    cases e0 : (n == 0)
    ·have h0 : ¬ n + (0) = 0 := by have := ne_of_beq_false e0; omega
     go_wp2
     exact ⟨⟨k + 1, _, by go_num, rfl, by omega, by omega, by omega, by omega, by omega, (by have t := shut_step hlt HS.out Hd.out h0; rw [Int.add_zero] at t; exact t)⟩, by simp [intOf]; omega⟩
    ·have h0 : n + (0) = 0 := by have := eq_of_beq e0; omega
     go_wp2
     go_ret
     exact ⟨ret_int (shut_stop hlt hk0 HS.out Hd.out h0), rfl⟩
  ·go_wp2
   go_ret
   exact ⟨ret_int (shut_end (by omega) hk1 HS.out), rfl⟩
end Go.Proofs.YtdgmoiflahoihaaGreatDoor
namespace Go.Proofs.YtdgmoiflahoihaaGreatDoor
open Go.RowKit
set_option linter.unusedSimpArgs false
set_option linter.unusedVariables false
theorem u8_eq {a b : UInt8} (h : a = b) : ((a.toNat : Int) == (b.toNat : Int)) = true := by
 subst h; simp
set_option maxHeartbeats 1000000 in
theorem over_any (b i k : Nat) (C : List UInt8) (A : List Int) (w : World) (hb : BookAt w b C A) (ho : overC C i = some k) :
  Calls Tryz.prog 77 #[.pointer (some ⟨b, 0, none⟩), .int .i64 i] w fun e w' => e = .returned (.int .i64 k) ∧ w' = w := by
 have hi := over_lt ho
 rw [over_at hi] at ho
 have hb' := hb
 obtain ⟨hC, hA, ac, aa, bc, ba, capc, capa, h0, h1, hc, ha⟩ := hb
 obtain ⟨rfl, hci⟩ := hc i hi
 have hs := shutC_le C
 by_cases e40 : C[i] = 40
 ·have t40 : ((C[i].toNat : Int) == 40) = true := u8_eq (b := 40) e40
  rw [if_pos e40] at ho
  have l2 := hs (shutC C i)
  have l1 := hs i
  by_cases hl : shutC C (shutC C i) < C.length
  ·obtain ⟨_, hck⟩ := hc _ hl
   rw [List.getElem?_eq_getElem hl] at ho
   by_cases e123 : C[shutC C (shutC C i)] = 123
   ·have t123 : ((C[shutC C (shutC C i)].toNat : Int) == 123) = true := u8_eq (b := 123) e123
    have hk : k = shutC C (shutC C (shutC C i)) := by simpa [e123] using ho.symm
    subst hk
    clear ho e40 e123
    generalize hk1 : shutC C i = k1 at *
    generalize hk2 : shutC C k1 = k2 at *
    have HB : Hid (BookAt w b C A) := hb'
    have H1 : Hid (shutC C i = k1) := hk1
    have H2 : Hid (shutC C k1 = k2) := hk2
    clear hb' hk1 hk2
    go_enter Tryz.func77, Tryz.ntmps77
    go_wp2_with fail
    refine (shut_any b i C A _ HB.out (by omega)).mono ?_
    rintro e w' ⟨rfl, rfl⟩
    rw [H1.out]
    go_wp2_with fail
    refine (shut_any b k1 C A _ HB.out (by omega)).mono ?_
    rintro e w' ⟨rfl, rfl⟩
    rw [H2.out]
    go_wp2_with fail
    refine (shut_any b k2 C A _ HB.out (by omega)).mono ?_
    rintro e w' ⟨rfl, rfl⟩
    go_wp2_with fail
    go_ret
    exact ⟨rfl, rfl⟩
   ·have t123 : ((C[shutC C (shutC C i)].toNat : Int) == 123) = false := u8_ne (b := 123) e123
    have hk : k = shutC C (shutC C i) := by simpa [e123] using ho.symm
    subst hk
    clear ho e40 e123
    generalize hk1 : shutC C i = k1 at *
    generalize hk2 : shutC C k1 = k2 at *
    have HB : Hid (BookAt w b C A) := hb'
    have H1 : Hid (shutC C i = k1) := hk1
    have H2 : Hid (shutC C k1 = k2) := hk2
    clear hb' hk1 hk2
    go_enter Tryz.func77, Tryz.ntmps77
    go_wp2_with fail
    refine (shut_any b i C A _ HB.out (by omega)).mono ?_
    rintro e w' ⟨rfl, rfl⟩
    rw [H1.out]
    go_wp2_with fail
    refine (shut_any b k1 C A _ HB.out (by omega)).mono ?_
    rintro e w' ⟨rfl, rfl⟩
    rw [H2.out]
    go_wp2_with fail
    go_ret
    exact ⟨rfl, rfl⟩
  ·rw [List.getElem?_eq_none (by omega)] at ho
   have hk : k = shutC C (shutC C i) := by simpa using ho.symm
   subst hk
   clear ho e40
   generalize hk1 : shutC C i = k1 at *
   generalize hk2 : shutC C k1 = k2 at *
   have HB : Hid (BookAt w b C A) := hb'
   have H1 : Hid (shutC C i = k1) := hk1
   have H2 : Hid (shutC C k1 = k2) := hk2
   clear hb' hk1 hk2
   go_enter Tryz.func77, Tryz.ntmps77
   go_wp2_with fail
   refine (shut_any b i C A _ HB.out (by omega)).mono ?_
   rintro e w' ⟨rfl, rfl⟩
   rw [H1.out]
   go_wp2_with fail
   refine (shut_any b k1 C A _ HB.out (by omega)).mono ?_
   rintro e w' ⟨rfl, rfl⟩
   rw [H2.out]
   go_wp2_with fail
   go_ret
   exact ⟨rfl, rfl⟩
 by_cases e42 : C[i] = 42
 ·have t40 : ((C[i].toNat : Int) == 40) = false := u8_ne (b := 40) e40
  have t42 : ((C[i].toNat : Int) == 42) = true := u8_eq (b := 42) e42
  rw [if_neg e40, if_pos e42] at ho
  have hk : k = shutC C (i + 2) := by simpa using ho.symm
  subst hk
  clear ho e40 e42
  have HB : Hid (BookAt w b C A) := hb'
  clear hb'
  go_enter Tryz.func77, Tryz.ntmps77
  go_wp2_with fail
  rw [show ((i : Int) + 2) = ((i + 2 : Nat) : Int) by omega]
  refine (shut_any b (i + 2) C A _ HB.out (by omega)).mono ?_
  rintro e w' ⟨rfl, rfl⟩
  go_wp2_with fail
  go_ret
  exact ⟨rfl, rfl⟩
 ·have t40 : ((C[i].toNat : Int) == 40) = false := u8_ne (b := 40) e40
  have t42 : ((C[i].toNat : Int) == 42) = false := u8_ne (b := 42) e42
  rw [if_neg e40, if_neg e42] at ho
  have HO : Hid (semiR (C.drop i) i = some k) := ho
  clear ho e40 e42 hb'
  go_enter Tryz.func77, Tryz.ntmps77
  go_wp2
  go_loop [6] (fun x => ∃ j : Nat, x = .int .i64 j ∧ i ≤ j ∧ j ≤ C.length ∧ Hid (semiR (C.drop j) j = some k)) (fun x => C.length - (intOf x).toNat)
  case atStart => exact ⟨i, rfl, by omega, by omega, HO⟩
  case round =>
   obtain ⟨j, rfl, hj0, hj1, HJ⟩ := hrel
   have hlt := semi_lt HJ.out
   obtain ⟨_, hcj⟩ := hc j hlt
   by_cases e59 : C[j] = 59
   ·have t59 : ((C[j].toNat : Int) != 59) = false := by have := u8_eq (b := 59) e59; simpa using this
    have HF : Hid ((j : Int) + 1 = (k : Int)) := semi_hit HJ.out hlt e59
    clear e59
    go_wp2
    go_ret
    exact ⟨ret_int HF.out, rfl⟩
   ·have t59 : ((C[j].toNat : Int) != 59) = true := by have := u8_ne (b := 59) e59; simpa using this
    have HF : Hid (semiR (C.drop (j + 1)) (j + 1) = some k) := semi_step HJ.out hlt e59
    clear e59
    go_wp2
    exact ⟨⟨j + 1, by go_num, by omega, by omega, HF⟩, by simp [intOf]; omega⟩
set_option maxHeartbeats 1000000 in
theorem begin_any (b k : Nat) (C : List UInt8) (A : List Int) (w : World) (hb : BookAt w b C A) (ho : beginC C = some k) :
  Calls Tryz.prog 47 #[.pointer (some ⟨b, 0, none⟩)] w fun e w' => e = .returned (.int .i64 k) ∧ w' = w := by
 have HB : Hid (BookAt w b C A) := hb
 obtain ⟨hC, hA, ac, aa, bc, ba, capc, capa, h0, h1, hc, ha⟩ := hb
 have HO : Hid (beginF C (C.length + 1) 0 = some k) := ho
 clear ho
 go_enter Tryz.func47, Tryz.ntmps47
 go_wp2
 go_loop [3] (fun x => ∃ (j f : Nat), x = .int .i64 j ∧ j ≤ C.length ∧ Hid (beginF C f j = some k)) (fun x => C.length + 1 - (intOf x).toNat)
 case atStart => exact ⟨0, C.length + 1, rfl, by omega, HO⟩
 case round =>
  obtain ⟨j, f, rfl, hj1, HJ⟩ := hrel
  by_cases hlt : j < C.length
  ·obtain ⟨rfl, hcj⟩ := hc j hlt
   by_cases e63 : C[j] = 63
   ·have t63 : ((C[j].toNat : Int) == 63) = true := u8_eq (b := 63) e63
    obtain ⟨m, f', hm, hf⟩ := begin_yes HJ.out hlt (.inl e63)
    clear e63
    have HM : Hid (overC C j = some m) := hm
    have HF : Hid (beginF C f' m = some k) := hf
    have hgt := over_gt hm
    have hle := over_le hm
    clear hm hf
    go_wp2_with fail
    refine (over_any b j m C A _ HB.out HM.out).mono ?_
    rintro e w' ⟨rfl, rfl⟩
    go_wp2_with fail
    exact ⟨⟨m, f', rfl, hle, HF⟩, by simp [intOf]; omega⟩
   have t63 : ((C[j].toNat : Int) == 63) = false := u8_ne (b := 63) e63
   by_cases e33 : C[j] = 33
   ·have t33 : ((C[j].toNat : Int) == 33) = true := u8_eq (b := 33) e33
    obtain ⟨m, f', hm, hf⟩ := begin_yes HJ.out hlt (.inr e33)
    clear e33 e63
    have HM : Hid (overC C j = some m) := hm
    have HF : Hid (beginF C f' m = some k) := hf
    have hgt := over_gt hm
    have hle := over_le hm
    clear hm hf
    go_wp2_with fail
    refine (over_any b j m C A _ HB.out HM.out).mono ?_
    rintro e w' ⟨rfl, rfl⟩
    go_wp2_with fail
    exact ⟨⟨m, f', rfl, hle, HF⟩, by simp [intOf]; omega⟩
   ·have t33 : ((C[j].toNat : Int) == 33) = false := u8_ne (b := 33) e33
    have HF : Hid ((j : Int) = (k : Int)) := begin_no HJ.out hlt e63 e33
    clear e33 e63
    go_wp2
    go_ret
    exact ⟨ret_int HF.out, rfl⟩
  ·have HF : Hid ((j : Int) = (k : Int)) := begin_end HJ.out (by omega)
   go_wp2
   go_ret
   exact ⟨ret_int HF.out, rfl⟩
end Go.Proofs.YtdgmoiflahoihaaGreatDoor
