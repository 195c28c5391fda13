import Derived.Test.YtdgmoiflahoihaaGreatDoorCOverw
import Derived.Laws.BitsAllLaws
import Derived.Test.YtdgmoiflahoihaaGreatDoorPlainw

namespace Go.Proofs.YtdgmoiflahoihaaGreatDoor
open Go.RowKit
set_option linter.unusedSimpArgs false
set_option linter.unusedVariables false
theorem i64_or_nat (a b : Nat) (ha : a < 4294967296) (hb : b < 4294967296) : bits .or .i64 (a : Int) (b : Int) = ((a ||| b : Nat) : Int) := by
 have hx : a ||| b < 2 ^ 32 := Nat.or_lt_two_pow (by omega) (by omega)
 show IntKind.i64.wrap ((BitVec.ofInt 64 (a : Int) ||| BitVec.ofInt 64 (b : Int)).toNat : Int) = _
 rw [BitVec.toNat_or, Go.ofInt_u64 a (by omega), Go.ofInt_u64 b (by omega)]
 exact IntWalk.i64_in _ ⟨by omega, by omega⟩
theorem i64_and_nat (a b : Nat) (ha : a < 4294967296) (hb : b < 4294967296) : bits .and .i64 (a : Int) (b : Int) = ((a &&& b : Nat) : Int) := by
 have hx : a &&& b < 2 ^ 32 := Nat.and_lt_two_pow _ (by omega)
 show IntKind.i64.wrap ((BitVec.ofInt 64 (a : Int) &&& BitVec.ofInt 64 (b : Int)).toNat : Int) = _
 rw [BitVec.toNat_and, Go.ofInt_u64 a (by omega), Go.ofInt_u64 b (by omega)]
 exact IntWalk.i64_in _ ⟨by omega, by omega⟩
theorem or_pow (m n e : Nat) (hm : m < 2 ^ e) (hn : n < e) (he : e ≤ 26) : bits .or .i64 (m : Int) (wrap64 (2 ^ n)) = ((m ||| 2 ^ n : Nat) : Int) ∧ m ||| 2 ^ n < 2 ^ e := by
 have h1 : 2 ^ n < 2 ^ e := Nat.pow_lt_pow_right (by omega) hn
 have h2 : 2 ^ e ≤ 2 ^ 26 := Nat.pow_le_pow_right (by omega) he
 have h4 : ((2 ^ n : Nat) : Int) = (2 : Int) ^ n := by simp
 have h3 : wrap64 (2 ^ n) = ((2 ^ n : Nat) : Int) := by
  rw [← IntWalk.i64_left, ← h4]
  generalize 2 ^ n = q at h1
  exact IntWalk.i64_in _ ⟨by omega, by omega⟩
 rw [h3]
 exact ⟨i64_or_nat m (2 ^ n) (by omega) (by omega), Nat.or_lt_two_pow hm h1⟩
theorem nm_eq (c : UInt8) : isNm (c.toNat : Int) = nmB c := by
 unfold isNm nmB
 rw [Bool.eq_iff_iff]; simp; omega
theorem dg_eq (c : UInt8) : isDg (c.toNat : Int) = dgB c := by
 unfold isDg dgB
 rw [Bool.eq_iff_iff]; simp; omega
theorem sc_eq (c : UInt8) : isSc (c.toNat : Int) = scB c := by
 unfold isSc scB
 rw [Bool.eq_iff_iff]; simp; omega
theorem val_int {k : IntKind} {a b : Int} (h : a = b) : Value.int k a = Value.int k b := by rw [h]
set_option maxHeartbeats 1000000 in
theorem names_any (b lo hi : Nat) (C : List UInt8) (A : List Int) (w : World) (hb : BookAt w b C A) (hl : lo ≤ hi) (hh : hi ≤ C.length) :
  Calls Tryz.prog 109 #[.pointer (some ⟨b, 0, none⟩), .int .i64 lo, .int .i64 hi] w fun e w' => e = .returned (.int .i64 (namesC C lo hi)) ∧ w' = w := by
 obtain ⟨hC, hA, ac, aa, bc, ba, capc, capa, h0, h1, hc, ha⟩ := hb
 go_enter Tryz.func109, Tryz.ntmps109
 go_wp2
 go_loop [7, 8] (fun n x => ∃ (k m : Nat), x = .int .i64 k ∧ n = .int .i64 m ∧ lo ≤ k ∧ k ≤ hi ∧ m < 2 ^ 26 ∧ Hid (namesL (seg C k hi) m = namesC C lo hi)) (fun _ x => hi - (intOf x).toNat)
 case atStart => exact ⟨lo, 0, rfl, rfl, by omega, by omega, by omega, rfl⟩
 case round =>
  obtain ⟨k, m, rfl, rfl, hk0, hk1, hm, HN⟩ := hrel
  by_cases hlt : k < hi
  ·obtain ⟨rfl, hck⟩ := hc k (by omega)
   have hby := C[k].toNat_lt
   cases hn : isNm (C[k].toNat : Int)
   ·have HF : Hid _ := names_no (m := m) hlt hh ((nm_eq _).symm.trans hn)
    go_wp2_with (first | (go_at_call 115; refine (isNm_any _ _).mono ?_; rintro e w' ⟨rfl, rfl⟩))
    exact ⟨⟨k + 1, m, by go_num, rfl, by omega, by omega, hm, HF.out.trans HN.out⟩, by simp [intOf]; omega⟩
   ·have h97 : 97 ≤ C[k].toNat := by simp [isNm] at hn; omega
    have h122 : C[k].toNat ≤ 122 := by simp [isNm] at hn; omega
    have HF : Hid _ := names_yes (m := m) hlt hh ((nm_eq _).symm.trans hn)
    go_wp2_with (first | (go_at_call 115; refine (isNm_any _ _).mono ?_; rintro e w' ⟨rfl, rfl⟩))
    have ho := or_pow m (C[k].toNat - 97) 26 hm (by omega) (by omega)
    exact ⟨⟨k + 1, m ||| 2 ^ (C[k].toNat - 97), by go_num, val_int ho.1, by omega, by omega, ho.2, HF.out.trans HN.out⟩, by simp [intOf]; omega⟩
  ·have HF : Hid (m = namesC C lo hi) := by
    have := HN.out
    rw [seg_nil (by omega)] at this
    exact this
   go_wp2
   go_ret
   exact ⟨ret_int (by rw [HF.out]), rfl⟩
set_option maxHeartbeats 1000000 in
theorem label_any (b i l j : Nat) (C : List UInt8) (A : List Int) (w : World) (hb : BookAt w b C A) (ho : labelC C i = some (l, j)) :
  Calls Tryz.prog 112 #[.pointer (some ⟨b, 0, none⟩), .int .i64 i] w fun e w' => e = .returned (.tuple #[.int .i64 l, .int .i64 j]) ∧ w' = w := by
 have hi := labelC_lt ho
 rw [labelC_at hi] at ho
 obtain ⟨hC, hA, ac, aa, bc, ba, capc, capa, h0, h1, hc, ha⟩ := hb
 obtain ⟨rfl, hci⟩ := hc i hi
 by_cases e45 : C[i] = 45
 ·have t45 : ((C[i].toNat : Int) == 45) = true := u8_eq (b := 45) e45
  rw [if_pos e45] at ho
  obtain ⟨rfl, rfl⟩ : 0 = l ∧ i + 1 = j := by simpa using ho
  clear ho e45
  go_enter Tryz.func112, Tryz.ntmps112
  go_wp2
  go_ret2
  exact ⟨by go_num, rfl⟩
 ·have t45 : ((C[i].toNat : Int) == 45) = false := u8_ne (b := 45) e45
  rw [if_neg e45] at ho
  have HO : Hid (labelR (C.drop i) 0 i = some (l, j)) := ho
  clear ho e45
  go_enter Tryz.func112, Tryz.ntmps112
  go_wp2
  go_loop [1, 6] (fun x n => ∃ (k m : Nat), x = .int .i64 k ∧ n = .int .i64 m ∧ k ≤ C.length ∧ m < 2 ^ 4 ∧ Hid (labelR (C.drop k) m k = some (l, j))) (fun x _ => C.length - (intOf x).toNat)
  case atStart => exact ⟨i, 0, rfl, rfl, by omega, by omega, HO⟩
  case round =>
   obtain ⟨k, m, rfl, rfl, hk1, hm, HN⟩ := hrel
   have hlt := label_lt HN.out
   obtain ⟨_, hck⟩ := hc k hlt
   have hby := C[k].toNat_lt
   cases hn : isSc (C[k].toNat : Int)
   ·have HF : Hid _ := label_no HN.out hlt ((sc_eq _).symm.trans hn)
    go_wp2_with (first | (go_at_call 149; refine (isSc_any _ _).mono ?_; rintro e w' ⟨rfl, rfl⟩))
    go_ret2
    have := HF.out
    simp only [Prod.mk.injEq] at this
    obtain ⟨rfl, rfl⟩ := this
    exact ⟨rfl, rfl⟩
   ·have h65 : 65 ≤ C[k].toNat := by simp [isSc] at hn; omega
    have h68 : C[k].toNat ≤ 68 := by simp [isSc] at hn; omega
    have HF : Hid _ := label_yes HN.out hlt ((sc_eq _).symm.trans hn)
    go_wp2_with (first | (go_at_call 149; refine (isSc_any _ _).mono ?_; rintro e w' ⟨rfl, rfl⟩))
    have ho := or_pow m (C[k].toNat - 65) 4 hm (by omega) (by omega)
    exact ⟨⟨k + 1, m ||| 2 ^ (C[k].toNat - 65), by go_num, val_int ho.1, by omega, ho.2, HF⟩, by simp [intOf]; omega⟩
set_option maxHeartbeats 1000000 in
theorem size_any (b lo hi : Nat) (C : List UInt8) (A : List Int) (w : World) (hb : BookAt w b C A) (hl : lo ≤ hi) (hh : hi ≤ C.length) :
  Calls Tryz.prog 106 #[.pointer (some ⟨b, 0, none⟩), .int .i64 lo, .int .i64 hi] w fun e w' => e = .returned (.int .i64 (sizeC C lo hi)) ∧ w' = w := by
 obtain ⟨hC, hA, ac, aa, bc, ba, capc, capa, h0, h1, hc, ha⟩ := hb
 go_enter Tryz.func106, Tryz.ntmps106
 go_wp2
 go_loop [7, 8] (fun n x => ∃ (k m : Nat) (d : Bool), x = .int .i64 k ∧ n = .int .i64 m ∧ lo ≤ k ∧ k ≤ hi ∧ m ≤ k ∧ (k = lo → d = false) ∧ (∀ h : k - 1 < C.length, lo < k → dgB C[k - 1] = d) ∧ Hid (m + sizeL d (seg C k hi) = sizeC C lo hi)) (fun _ x => hi - (intOf x).toNat)
 case atStart => exact ⟨lo, 0, false, rfl, rfl, by omega, by omega, by omega, fun _ => rfl, fun _ h => absurd h (by omega), by show 0 + _ = _; rw [Nat.zero_add]; rfl⟩
 case round =>
  obtain ⟨k, m, d, rfl, rfl, hk0, hk1, hm, hd0, hd1, HN⟩ := hrel
  by_cases hlt : k < hi
  ·obtain ⟨rfl, hck⟩ := hc k (by omega)
   have hby := C[k].toNat_lt
   have HS : Hid (m + ((if C[k] ≠ 40 ∧ C[k] ≠ 41 ∧ (d && dgB C[k]) = false then 1 else 0) + sizeL (dgB C[k]) (seg C (k + 1) hi)) = sizeC C lo hi) := by
    have t := HN.out
    rw [size_step hlt hh] at t
    exact t
   by_cases hkl : k = lo
   ·have hdf := hd0 hkl
    have hdd : (d && dgB C[k]) = false := by rw [hdf]; rfl
    have hkk : ¬ lo < k := by omega
    clear hd0 hd1 hkl
    by_cases e40 : C[k] = 40
    ·have t40 : ((C[k].toNat : Int) != 40) = false := by have := u8_eq (b := 40) e40; simpa using this
     have HF : Hid (m + 0 + sizeL (dgB C[k]) (seg C (k + 1) hi) = sizeC C lo hi) := by have t := HS.out; rw [if_neg (fun h => h.1 e40)] at t; show _ = _; omega
     go_wp2_with (first | (go_at_call 145; refine (isDg_any _ _).mono ?_; rintro e w' ⟨rfl, rfl⟩))
     exact ⟨⟨k + 1, m + 0, dgB C[k], by go_num, by go_num, by omega, by omega, by omega, by omega, fun _ _ => rfl, HF⟩, by simp [intOf]; omega⟩
    have t40 : ((C[k].toNat : Int) != 40) = true := by have := u8_ne (b := 40) e40; simpa using this
    by_cases e41 : C[k] = 41
    ·have t41 : ((C[k].toNat : Int) != 41) = false := by have := u8_eq (b := 41) e41; simpa using this
     have HF : Hid (m + 0 + sizeL (dgB C[k]) (seg C (k + 1) hi) = sizeC C lo hi) := by have t := HS.out; rw [if_neg (fun h => h.2.1 e41)] at t; show _ = _; omega
     go_wp2_with (first | (go_at_call 145; refine (isDg_any _ _).mono ?_; rintro e w' ⟨rfl, rfl⟩))
     exact ⟨⟨k + 1, m + 0, dgB C[k], by go_num, by go_num, by omega, by omega, by omega, by omega, fun _ _ => rfl, HF⟩, by simp [intOf]; omega⟩
    ·have t41 : ((C[k].toNat : Int) != 41) = true := by have := u8_ne (b := 41) e41; simpa using this
     have HF : Hid (m + 1 + sizeL (dgB C[k]) (seg C (k + 1) hi) = sizeC C lo hi) := by have t := HS.out; rw [if_pos ⟨e40, e41, hdd⟩] at t; show _ = _; omega
     go_wp2_with (first | (go_at_call 145; refine (isDg_any _ _).mono ?_; rintro e w' ⟨rfl, rfl⟩))
     exact ⟨⟨k + 1, m + 1, dgB C[k], by go_num, by go_num, by omega, by omega, by omega, by omega, fun _ _ => rfl, HF⟩, by simp [intOf]; omega⟩
   have hkk : lo < k := by omega
   have hdp := hd1 (by omega) hkk
   obtain ⟨_, hcp⟩ := hc (k - 1) (by omega)
   have hbp := C[k - 1].toNat_lt
   clear hd0 hd1
   cases hn : isDg (C[k].toNat : Int)
   ·have hdd : (d && dgB C[k]) = false := by rw [← dg_eq, hn, Bool.and_false]
    by_cases e40 : C[k] = 40
    ·have t40 : ((C[k].toNat : Int) != 40) = false := by have := u8_eq (b := 40) e40; simpa using this
     have HF : Hid (m + 0 + sizeL (dgB C[k]) (seg C (k + 1) hi) = sizeC C lo hi) := by have t := HS.out; rw [if_neg (fun h => h.1 e40)] at t; show _ = _; omega
     go_wp2_with (first | (go_at_call 145; refine (isDg_any _ _).mono ?_; rintro e w' ⟨rfl, rfl⟩))
     exact ⟨⟨k + 1, m + 0, dgB C[k], by go_num, by go_num, by omega, by omega, by omega, by omega, fun _ _ => rfl, HF⟩, by simp [intOf]; omega⟩
    have t40 : ((C[k].toNat : Int) != 40) = true := by have := u8_ne (b := 40) e40; simpa using this
    by_cases e41 : C[k] = 41
    ·have t41 : ((C[k].toNat : Int) != 41) = false := by have := u8_eq (b := 41) e41; simpa using this
     have HF : Hid (m + 0 + sizeL (dgB C[k]) (seg C (k + 1) hi) = sizeC C lo hi) := by have t := HS.out; rw [if_neg (fun h => h.2.1 e41)] at t; show _ = _; omega
     go_wp2_with (first | (go_at_call 145; refine (isDg_any _ _).mono ?_; rintro e w' ⟨rfl, rfl⟩))
     exact ⟨⟨k + 1, m + 0, dgB C[k], by go_num, by go_num, by omega, by omega, by omega, by omega, fun _ _ => rfl, HF⟩, by simp [intOf]; omega⟩
    ·have t41 : ((C[k].toNat : Int) != 41) = true := by have := u8_ne (b := 41) e41; simpa using this
     have HF : Hid (m + 1 + sizeL (dgB C[k]) (seg C (k + 1) hi) = sizeC C lo hi) := by have t := HS.out; rw [if_pos ⟨e40, e41, hdd⟩] at t; show _ = _; omega
     go_wp2_with (first | (go_at_call 145; refine (isDg_any _ _).mono ?_; rintro e w' ⟨rfl, rfl⟩))
     exact ⟨⟨k + 1, m + 1, dgB C[k], by go_num, by go_num, by omega, by omega, by omega, by omega, fun _ _ => rfl, HF⟩, by simp [intOf]; omega⟩
   cases hp : isDg (C[k - 1].toNat : Int)
   ·have hdd : (d && dgB C[k]) = false := by rw [← hdp, ← dg_eq (C[k - 1]), hp, Bool.false_and]
    by_cases e40 : C[k] = 40
    ·have t40 : ((C[k].toNat : Int) != 40) = false := by have := u8_eq (b := 40) e40; simpa using this
     have HF : Hid (m + 0 + sizeL (dgB C[k]) (seg C (k + 1) hi) = sizeC C lo hi) := by have t := HS.out; rw [if_neg (fun h => h.1 e40)] at t; show _ = _; omega
     go_wp2_with (first | (go_at_call 145; refine (isDg_any _ _).mono ?_; rintro e w' ⟨rfl, rfl⟩))
     exact ⟨⟨k + 1, m + 0, dgB C[k], by go_num, by go_num, by omega, by omega, by omega, by omega, fun _ _ => rfl, HF⟩, by simp [intOf]; omega⟩
    have t40 : ((C[k].toNat : Int) != 40) = true := by have := u8_ne (b := 40) e40; simpa using this
    by_cases e41 : C[k] = 41
    ·have t41 : ((C[k].toNat : Int) != 41) = false := by have := u8_eq (b := 41) e41; simpa using this
     have HF : Hid (m + 0 + sizeL (dgB C[k]) (seg C (k + 1) hi) = sizeC C lo hi) := by have t := HS.out; rw [if_neg (fun h => h.2.1 e41)] at t; show _ = _; omega
     go_wp2_with (first | (go_at_call 145; refine (isDg_any _ _).mono ?_; rintro e w' ⟨rfl, rfl⟩))
     exact ⟨⟨k + 1, m + 0, dgB C[k], by go_num, by go_num, by omega, by omega, by omega, by omega, fun _ _ => rfl, HF⟩, by simp [intOf]; omega⟩
    ·have t41 : ((C[k].toNat : Int) != 41) = true := by have := u8_ne (b := 41) e41; simpa using this
     have HF : Hid (m + 1 + sizeL (dgB C[k]) (seg C (k + 1) hi) = sizeC C lo hi) := by have t := HS.out; rw [if_pos ⟨e40, e41, hdd⟩] at t; show _ = _; omega
     go_wp2_with (first | (go_at_call 145; refine (isDg_any _ _).mono ?_; rintro e w' ⟨rfl, rfl⟩))
     exact ⟨⟨k + 1, m + 1, dgB C[k], by go_num, by go_num, by omega, by omega, by omega, by omega, fun _ _ => rfl, HF⟩, by simp [intOf]; omega⟩
   ·have hdd : (d && dgB C[k]) = true := by rw [← hdp, ← dg_eq, ← dg_eq (C[k]), hp, hn]; rfl
    by_cases e40 : C[k] = 40
    ·have t40 : ((C[k].toNat : Int) != 40) = false := by have := u8_eq (b := 40) e40; simpa using this
     have HF : Hid (m + 0 + sizeL (dgB C[k]) (seg C (k + 1) hi) = sizeC C lo hi) := by have t := HS.out; rw [if_neg (fun h => h.1 e40)] at t; show _ = _; omega
     go_wp2_with (first | (go_at_call 145; refine (isDg_any _ _).mono ?_; rintro e w' ⟨rfl, rfl⟩))
     exact ⟨⟨k + 1, m + 0, dgB C[k], by go_num, by go_num, by omega, by omega, by omega, by omega, fun _ _ => rfl, HF⟩, by simp [intOf]; omega⟩
    have t40 : ((C[k].toNat : Int) != 40) = true := by have := u8_ne (b := 40) e40; simpa using this
    by_cases e41 : C[k] = 41
    ·have t41 : ((C[k].toNat : Int) != 41) = false := by have := u8_eq (b := 41) e41; simpa using this
     have HF : Hid (m + 0 + sizeL (dgB C[k]) (seg C (k + 1) hi) = sizeC C lo hi) := by have t := HS.out; rw [if_neg (fun h => h.2.1 e41)] at t; show _ = _; omega
     go_wp2_with (first | (go_at_call 145; refine (isDg_any _ _).mono ?_; rintro e w' ⟨rfl, rfl⟩))
     exact ⟨⟨k + 1, m + 0, dgB C[k], by go_num, by go_num, by omega, by omega, by omega, by omega, fun _ _ => rfl, HF⟩, by simp [intOf]; omega⟩
    ·have t41 : ((C[k].toNat : Int) != 41) = true := by have := u8_ne (b := 41) e41; simpa using this
     have HF : Hid (m + 0 + sizeL (dgB C[k]) (seg C (k + 1) hi) = sizeC C lo hi) := by have t := HS.out; rw [if_neg (fun h => absurd h.2.2 (by rw [hdd]; decide))] at t; show _ = _; omega
     go_wp2_with (first | (go_at_call 145; refine (isDg_any _ _).mono ?_; rintro e w' ⟨rfl, rfl⟩))
     exact ⟨⟨k + 1, m + 0, dgB C[k], by go_num, by go_num, by omega, by omega, by omega, by omega, fun _ _ => rfl, HF⟩, by simp [intOf]; omega⟩
  ·have HF : Hid (m = sizeC C lo hi) := by
    have := HN.out
    rw [seg_nil (by omega)] at this
    exact this
   go_wp2
   go_ret
   exact ⟨ret_int (by rw [HF.out]), rfl⟩
end Go.Proofs.YtdgmoiflahoihaaGreatDoor
namespace Go.Proofs.YtdgmoiflahoihaaGreatDoor
open Go.RowKit
set_option linter.unusedSimpArgs false
set_option linter.unusedVariables false
theorem ret_four {a b c d a' b' c' d' : Int} (h1 : a = a') (h2 : b = b') (h3 : c = c') (h4 : d = d') :
  Ending.returned (.tuple #[.int .i64 a, .int .i64 b, .int .i64 c, .int .i64 d]) = .returned (.tuple #[.int .i64 a', .int .i64 b', .int .i64 c', .int .i64 d']) := by rw [h1, h2, h3, h4]
set_option maxHeartbeats 1000000 in
theorem rest_any (b i : Nat) (e : Rest) (C : List UInt8) (A : List Int) (w : World) (hb : BookAt w b C A) (ho : restC C i = some e) :
  Calls Tryz.prog 79 #[.pointer (some ⟨b, 0, none⟩), .int .i64 i] w fun x w' => x = .returned (.tuple #[.int .i64 e.name, .int .i64 e.label, .int .i64 e.lo, .int .i64 e.hi]) ∧ w' = w := by
 unfold restC at ho
 cases hov : overC C i with
 | none => rw [hov] at ho; cases ho
 | some o =>
 have hi := over_lt hov
 have hog := over_gt hov
 have hol := over_le hov
 rw [hov, List.getElem?_eq_getElem hi] at ho
 simp only at ho
 have HB : Hid (BookAt w b C A) := hb
 obtain ⟨hC, hA, ac, aa, bc, ba, capc, capa, h0, h1, hc, ha⟩ := hb
 obtain ⟨rfl, hci⟩ := hc i hi
 have hby := C[i].toNat_lt
 have HO : Hid (overC C i = some o) := hov
 clear hov
 by_cases e62 : C[i] = 62
 ·have t62 : ((C[i].toNat : Int) == 62) = true := u8_eq (b := 62) e62
  rw [if_pos e62] at ho
  cases hl : labelC C (i + 1) with
  | none => rw [hl] at ho; cases ho
  | some r =>
  obtain ⟨l, j⟩ := r
  rw [hl] at ho
  simp only [Option.some.injEq] at ho
  subst ho
  have HL : Hid (labelC C (i + 1) = some (l, j)) := hl
  clear hl e62
  go_enter Tryz.func79, Tryz.ntmps79
  go_wp2_with fail
  refine (over_any b i o C A _ HB.out HO.out).mono ?_
  rintro x w' ⟨rfl, rfl⟩
  go_wp2_with fail
  rw [show ((i : Int) + 1) = ((i + 1 : Nat) : Int) by omega]
  refine (label_any b (i + 1) l j C A _ HB.out HL.out).mono ?_
  rintro x w' ⟨rfl, rfl⟩
  go_wp2_with fail
  exact bodyPost_ret (v := .tuple #[.int .i64 (-1), .int .i64 l, .int .i64 j, .int .i64 (o - 1)]) (by simp [results, Tryz.results79, go_sem]) rfl ⟨ret_four rfl rfl rfl (by omega), rfl⟩
 have t62 : ((C[i].toNat : Int) == 62) = false := u8_ne (b := 62) e62
 rw [if_neg e62] at ho
 by_cases e94 : C[i] = 94
 ·have t94 : ((C[i].toNat : Int) == 94) = true := u8_eq (b := 94) e94
  rw [if_pos e94] at ho
  cases hl : labelC C (i + 3) with
  | none => rw [hl] at ho; cases ho
  | some r =>
  obtain ⟨l, j⟩ := r
  have hl3 := labelC_lt hl
  have hd : i + 1 < C.length := by omega
  rw [hl, List.getElem?_eq_getElem hd] at ho
  simp only [Option.some.injEq] at ho
  subst ho
  obtain ⟨_, hcd⟩ := hc (i + 1) hd
  have hbd := C[i + 1].toNat_lt
  have hjl := labelC_le hl
  have HL : Hid (labelC C (i + 3) = some (l, j)) := hl
  clear hl e94 e62
  go_enter Tryz.func79, Tryz.ntmps79
  go_wp2_with fail
  refine (over_any b i o C A _ HB.out HO.out).mono ?_
  rintro x w' ⟨rfl, rfl⟩
  go_wp2_with fail
  rw [show ((i : Int) + 3) = ((i + 3 : Nat) : Int) by omega]
  refine (label_any b (i + 3) l j C A _ HB.out HL.out).mono ?_
  rintro x w' ⟨rfl, rfl⟩
  go_wp2_with fail
  exact bodyPost_ret (v := .tuple #[.int .i64 ((C[i + 1].toNat : Int) - 97), .int .i64 l, .int .i64 (j + 1), .int .i64 (o - 1)]) (by simp [results, Tryz.results79, go_sem]) rfl ⟨ret_four rfl rfl (by omega) (by omega), rfl⟩
 have t94 : ((C[i].toNat : Int) == 94) = false := u8_ne (b := 94) e94
 rw [if_neg e94] at ho
 by_cases e40 : C[i] = 40
 ·have t40 : ((C[i].toNat : Int) == 40) = true := u8_eq (b := 40) e40
  have hsg := shutC_gt hi e40
  have hsl := shutC_le C i
  rw [if_pos e40] at ho
  simp only [Option.some.injEq] at ho
  subst ho
  clear e62 e94 e40
  go_enter Tryz.func79, Tryz.ntmps79
  go_wp2_with fail
  refine (over_any b i o C A _ HB.out HO.out).mono ?_
  rintro x w' ⟨rfl, rfl⟩
  go_wp2_with fail
  refine (shut_any b i C A _ HB.out (by omega)).mono ?_
  rintro x w' ⟨rfl, rfl⟩
  go_wp2_with fail
  exact bodyPost_ret (v := .tuple #[.int .i64 (-1), .int .i64 (-1), .int .i64 (i + 1), .int .i64 (shutC C i - 1)]) (by simp [results, Tryz.results79, go_sem]) rfl ⟨ret_four rfl rfl (by omega) (by omega), rfl⟩
 have t40 : ((C[i].toNat : Int) == 40) = false := u8_ne (b := 40) e40
 rw [if_neg e40] at ho
 by_cases e42 : C[i] = 42
 ·have t42 : ((C[i].toNat : Int) == 42) = true := u8_eq (b := 42) e42
  rw [if_pos e42] at ho
  simp only [Option.some.injEq] at ho
  subst ho
  clear e62 e94 e40 e42
  go_enter Tryz.func79, Tryz.ntmps79
  go_wp2_with fail
  refine (over_any b i o C A _ HB.out HO.out).mono ?_
  rintro x w' ⟨rfl, rfl⟩
  go_wp2_with fail
  exact bodyPost_ret (v := .tuple #[.int .i64 (-1), .int .i64 (-1), .int .i64 i, .int .i64 i]) (by simp [results, Tryz.results79, go_sem]) rfl ⟨ret_four rfl rfl rfl rfl, rfl⟩
 ·have t42 : ((C[i].toNat : Int) == 42) = false := u8_ne (b := 42) e42
  rw [if_neg e42] at ho
  simp only [Option.some.injEq] at ho
  subst ho
  clear e62 e94 e40 e42
  go_enter Tryz.func79, Tryz.ntmps79
  go_wp2_with fail
  refine (over_any b i o C A _ HB.out HO.out).mono ?_
  rintro x w' ⟨rfl, rfl⟩
  go_wp2_with fail
  exact bodyPost_ret (v := .tuple #[.int .i64 ((C[i].toNat : Int) - 97), .int .i64 (-1), .int .i64 (i + 2), .int .i64 (o - 1)]) (by simp [results, Tryz.results79, go_sem]) rfl ⟨ret_four rfl rfl (by omega) (by omega), rfl⟩
set_option maxHeartbeats 1000000 in
theorem blocks_any (b i : Nat) (t : Two) (C : List UInt8) (A : List Int) (w : World) (hb : BookAt w b C A) (ho : blocksC C i = some t) :
  Calls Tryz.prog 78 #[.pointer (some ⟨b, 0, none⟩), .int .i64 i] w fun x w' => x = .returned (.tuple #[.int .i64 t.p, .int .i64 t.q, .int .i64 t.r, .int .i64 t.s]) ∧ w' = w := by
 cases hov : overC C i with
 | none => unfold blocksC at ho; rw [hov] at ho; cases ho
 | some o =>
 have hi := over_lt hov
 have hog := over_gt hov
 have hol := over_le hov
 rw [blocks_at hov hi] at ho
 have HB : Hid (BookAt w b C A) := hb
 obtain ⟨hC, hA, ac, aa, bc, ba, capc, capa, h0, h1, hc, ha⟩ := hb
 obtain ⟨rfl, hci⟩ := hc i hi
 have HO : Hid (overC C i = some o) := hov
 clear hov
 by_cases e40 : C[i] = 40
 ·have t40 : ((C[i].toNat : Int) == 40) = true := u8_eq (b := 40) e40
  rw [if_pos e40] at ho
  have hk1 := shutC_gt hi e40
  have hk2 := shutC_le C i
  have hm1 := shutC_le C (shutC C i)
  have hm2 := shut_pos (C := C) (k := shutC C i) (by omega) (by omega)
  clear e40
  generalize hk : shutC C i = k at *
  have HK : Hid (shutC C i = k) := hk
  clear hk
  generalize hm : shutC C k = m at *
  have HM : Hid (shutC C k = m) := hm
  clear hm
  by_cases hnm : o = m
  ·rw [if_pos hnm] at ho
   simp only [Option.some.injEq] at ho
   subst ho
   have tnm : ((o : Int) == (m : Int)) = true := by simp; omega
   clear hnm
   go_enter Tryz.func78, Tryz.ntmps78
   go_wp2_with fail
   refine (shut_any b i C A _ HB.out (by omega)).mono ?_
   rintro x w' ⟨rfl, rfl⟩
   rw [HK.out]
   go_wp2_with fail
   refine (shut_any b (k) C A _ HB.out (by omega)).mono ?_
   rintro x w' ⟨rfl, rfl⟩
   rw [HM.out]
   go_wp2_with fail
   refine (over_any b i o C A _ HB.out HO.out).mono ?_
   rintro x w' ⟨rfl, rfl⟩
   go_wp2_with fail
   exact bodyPost_ret (v := .tuple #[.int .i64 ((k : Nat) + 1), .int .i64 (m - 1), .int .i64 m, .int .i64 m]) (by simp [results, Tryz.results78, go_sem]) rfl ⟨ret_four (by omega) (by omega) rfl rfl, rfl⟩
  ·rw [if_neg hnm] at ho
   simp only [Option.some.injEq] at ho
   subst ho
   have tnm : ((o : Int) == (m : Int)) = false := by simp; omega
   clear hnm
   go_enter Tryz.func78, Tryz.ntmps78
   go_wp2_with fail
   refine (shut_any b i C A _ HB.out (by omega)).mono ?_
   rintro x w' ⟨rfl, rfl⟩
   rw [HK.out]
   go_wp2_with fail
   refine (shut_any b (k) C A _ HB.out (by omega)).mono ?_
   rintro x w' ⟨rfl, rfl⟩
   rw [HM.out]
   go_wp2_with fail
   refine (over_any b i o C A _ HB.out HO.out).mono ?_
   rintro x w' ⟨rfl, rfl⟩
   go_wp2_with fail
   exact bodyPost_ret (v := .tuple #[.int .i64 ((k : Nat) + 1), .int .i64 (m - 1), .int .i64 (m + 1), .int .i64 (o - 1)]) (by simp [results, Tryz.results78, go_sem]) rfl ⟨ret_four (by omega) (by omega) (by omega) (by omega), rfl⟩
 have t40 : ((C[i].toNat : Int) == 40) = false := u8_ne (b := 40) e40
 rw [if_neg e40] at ho
 by_cases e42 : C[i] = 42
 ·have t42 : ((C[i].toNat : Int) != 42) = false := by have := u8_eq (b := 42) e42; simpa using this
  rw [if_pos e42] at ho
  have hm1 := shutC_le C (i + 2)
  have hm2 := shut_pos (C := C) (k := i + 2) (by omega) (by omega)
  clear e40 e42
  generalize hm : shutC C (i + 2) = m at *
  have HM : Hid (shutC C (i + 2) = m) := hm
  clear hm
  by_cases hnm : o = m
  ·rw [if_pos hnm] at ho
   simp only [Option.some.injEq] at ho
   subst ho
   have tnm : ((o : Int) == (m : Int)) = true := by simp; omega
   clear hnm
   go_enter Tryz.func78, Tryz.ntmps78
   go_wp2_with fail
   rw [show ((i : Int) + 2) = ((i + 2 : Nat) : Int) by omega]
   refine (shut_any b ((i + 2)) C A _ HB.out (by omega)).mono ?_
   rintro x w' ⟨rfl, rfl⟩
   rw [HM.out]
   go_wp2_with fail
   refine (over_any b i o C A _ HB.out HO.out).mono ?_
   rintro x w' ⟨rfl, rfl⟩
   go_wp2_with fail
   exact bodyPost_ret (v := .tuple #[.int .i64 (((i + 2) : Nat) + 1), .int .i64 (m - 1), .int .i64 m, .int .i64 m]) (by simp [results, Tryz.results78, go_sem]) rfl ⟨ret_four (by omega) (by omega) rfl rfl, rfl⟩
  ·rw [if_neg hnm] at ho
   simp only [Option.some.injEq] at ho
   subst ho
   have tnm : ((o : Int) == (m : Int)) = false := by simp; omega
   clear hnm
   go_enter Tryz.func78, Tryz.ntmps78
   go_wp2_with fail
   rw [show ((i : Int) + 2) = ((i + 2 : Nat) : Int) by omega]
   refine (shut_any b ((i + 2)) C A _ HB.out (by omega)).mono ?_
   rintro x w' ⟨rfl, rfl⟩
   rw [HM.out]
   go_wp2_with fail
   refine (over_any b i o C A _ HB.out HO.out).mono ?_
   rintro x w' ⟨rfl, rfl⟩
   go_wp2_with fail
   exact bodyPost_ret (v := .tuple #[.int .i64 (((i + 2) : Nat) + 1), .int .i64 (m - 1), .int .i64 (m + 1), .int .i64 (o - 1)]) (by simp [results, Tryz.results78, go_sem]) rfl ⟨ret_four (by omega) (by omega) (by omega) (by omega), rfl⟩
 ·have t42 : ((C[i].toNat : Int) != 42) = true := by have := u8_ne (b := 42) e42; simpa using this
  rw [if_neg e42] at ho
  simp only [Option.some.injEq] at ho
  subst ho
  clear e40 e42
  go_enter Tryz.func78, Tryz.ntmps78
  go_wp2_with fail
  exact bodyPost_ret (v := .tuple #[.int .i64 i, .int .i64 i, .int .i64 i, .int .i64 i]) (by simp [results, Tryz.results78, go_sem]) rfl ⟨ret_four rfl rfl rfl rfl, rfl⟩
end Go.Proofs.YtdgmoiflahoihaaGreatDoor
namespace Go.Proofs.YtdgmoiflahoihaaGreatDoor
open Go.RowKit
set_option linter.unusedSimpArgs false
set_option linter.unusedVariables false
theorem w64_in {n : Int} (h0 : -9223372036854775808 ≤ n) (h1 : n ≤ 9223372036854775807) : wrap64 n = n := by
 rw [← IntWalk.i64_left]; exact IntWalk.i64_in n ⟨h0, h1⟩
theorem work_val (m sz x y d : Nat) (h48 : 48 ≤ d) (hb : m + 1 + sz + (d - 48) * (1 + x) + y < 2199023255552) :
  wrap64 (wrap64 ((m : Int) + 1 + sz + wrap64 (((d : Int) - 48) * (1 + (x : Int)))) + y) = ((m + 1 + sz + (d - 48) * (1 + x) + y : Nat) : Int) := by
 have e : ((d : Int) - 48) * (1 + (x : Int)) = (((d - 48) * (1 + x) : Nat) : Int) := by
  have e1 : ((d : Int) - 48) = ((d - 48 : Nat) : Int) := by omega
  rw [e1]
  push_cast
  rfl
 rw [e]
 generalize (d - 48) * (1 + x) = q at *
 rw [w64_in (n := (q : Int)) (by omega) (by omega), w64_in (n := (m : Int) + 1 + sz + q) (by omega) (by omega), w64_in (by omega) (by omega)]
 omega
set_option maxRecDepth 100000 in
set_option maxHeartbeats 2000000 in
theorem work_any (F : Nat) : ∀ (b lo hi r : Nat) (C : List UInt8) (A : List Int) (w : World) (hb : BookAt w b C A) (ho : workF C F lo hi = some r) (hlo : lo ≤ 500) (hhi : hi ≤ 500),
  Calls Tryz.prog 73 #[.pointer (some ⟨b, 0, none⟩), .int .i64 lo, .int .i64 hi] w fun x w' => x = .returned (.int .i64 r) ∧ w' = w := by
 induction F using Nat.strongRecOn with
 | ind F ih =>
 intro b lo hi r C A w hb ho hlo hhi
 have IH : Hid (∀ m, m < F → _) := ih
 clear ih
 have HB : Hid (BookAt w b C A) := hb
 obtain ⟨hC, hA, ac, aa, bc, ba, capc, capa, h0, h1, hc, ha⟩ := hb
 have hr := work_lt ho
 have HO : Hid (workF C F lo hi = some r) := ho
 clear ho
 go_enter Tryz.func73, Tryz.ntmps73
 go_wp2
 go_loop [7, 8] (fun n x => ∃ (k m f z : Nat), x = .int .i64 k ∧ n = .int .i64 m ∧ lo ≤ k ∧ k ≤ 500 ∧ f ≤ F ∧ m + z = r ∧ Hid (workF C f k hi = some z) ) (fun _ x => 500 - (intOf x).toNat)
 case atStart => exact ⟨lo, 0, F, r, rfl, rfl, by omega, by omega, by omega, by omega, HO⟩
 case round =>
  obtain ⟨k, m, f, z, rfl, rfl, hk0, hk1, hf, hm, HW⟩ := hrel
  by_cases hlt : k < hi
  ·obtain ⟨g, e, t, o, x, y, z', rfl, hre, hbl, hov, hx, hy, hz, hel, heh, hzz, h42, hn42⟩ := work_step HW.out hlt
   have hkl := over_lt hov
   have hog := over_gt hov
   have hol := over_le hov
   obtain ⟨rfl, hck⟩ := hc k hkl
   obtain ⟨b1, b2, b3, b4⟩ := blocks_le hbl hC
   have hxl := work_lt hx
   have HX : Hid (workF C g t.p t.q = some x) := hx
   have HY : Hid (workF C g t.r t.s = some y) := hy
   have HZ : Hid (workF C g o hi = some z') := hz
   have HE : Hid (restC C k = some e) := hre
   have HT : Hid (blocksC C k = some t) := hbl
   have HV : Hid (overC C k = some o) := hov
   clear hx hy hz hre hbl hov
   by_cases e42 : C[k] = 42
   ·obtain ⟨h1l, h48, hv2⟩ := h42 hkl e42
    have t42 : ((C[k].toNat : Int) == 42) = true := u8_eq (b := 42) e42
    obtain ⟨_, hcd⟩ := hc (k + 1) h1l
    have hbd := C[k + 1].toNat_lt
    generalize hsz : sizeC C e.lo e.hi = sz at *
    have HSZ : Hid (sizeC C e.lo e.hi = sz) := hsz
    clear hsz
    clear h42 hn42 e42
    go_wp2_with fail
    refine (rest_any b k e C A _ HB.out HE.out).mono ?_
    rintro x1 w' ⟨rfl, rfl⟩
    go_wp2_with fail
    refine (size_any b e.lo e.hi C A _ HB.out hel heh).mono ?_
    rintro x1 w' ⟨rfl, rfl⟩
    rw [HSZ.out]
    go_wp2_with fail
    refine (blocks_any b k t C A _ HB.out HT.out).mono ?_
    rintro x1 w' ⟨rfl, rfl⟩
    go_wp2_with fail
    refine (IH.out g (by omega) b t.p t.q x C A _ HB.out HX.out b1 b2).mono ?_
    rintro x1 w' ⟨rfl, rfl⟩
    go_wp2_with fail
    refine (IH.out g (by omega) b t.r t.s y C A _ HB.out HY.out b3 b4).mono ?_
    rintro x1 w' ⟨rfl, rfl⟩
    go_wp2_with fail
    refine (over_any b k o C A _ HB.out HV.out).mono ?_
    rintro x1 w' ⟨rfl, rfl⟩
    go_wp2_with fail
    have hval := work_val m sz x y C[k + 1].toNat h48 (by omega)
    exact ⟨⟨o, m + 1 + sz + (C[k + 1].toNat - 48) * (1 + x) + y, g, z', rfl, val_int hval, by omega, by omega, by omega, by omega, HZ⟩, by simp [intOf]; omega⟩
   ·have t42 : ((C[k].toNat : Int) == 42) = false := u8_ne (b := 42) e42
    have hv2 := hn42 hkl e42
    generalize hsz : sizeC C e.lo e.hi = sz at *
    have HSZ : Hid (sizeC C e.lo e.hi = sz) := hsz
    clear hsz
    clear h42 hn42 e42
    go_wp2_with fail
    refine (rest_any b k e C A _ HB.out HE.out).mono ?_
    rintro x1 w' ⟨rfl, rfl⟩
    go_wp2_with fail
    refine (size_any b e.lo e.hi C A _ HB.out hel heh).mono ?_
    rintro x1 w' ⟨rfl, rfl⟩
    rw [HSZ.out]
    go_wp2_with fail
    refine (blocks_any b k t C A _ HB.out HT.out).mono ?_
    rintro x1 w' ⟨rfl, rfl⟩
    go_wp2_with fail
    refine (IH.out g (by omega) b t.p t.q x C A _ HB.out HX.out b1 b2).mono ?_
    rintro x1 w' ⟨rfl, rfl⟩
    go_wp2_with fail
    refine (IH.out g (by omega) b t.r t.s y C A _ HB.out HY.out b3 b4).mono ?_
    rintro x1 w' ⟨rfl, rfl⟩
    go_wp2_with fail
    refine (over_any b k o C A _ HB.out HV.out).mono ?_
    rintro x1 w' ⟨rfl, rfl⟩
    go_wp2_with fail
    exact ⟨⟨o, m + 1 + sz + x + y, g, z', rfl, by go_num, by omega, by omega, by omega, by omega, HZ⟩, by simp [intOf]; omega⟩
  ·have HF : Hid ((m : Int) = (r : Int)) := by
    have h1 := work_none HW.out (by omega)
    show _ = _
    omega
   go_wp2
   go_ret
   exact ⟨ret_int HF.out, rfl⟩
end Go.Proofs.YtdgmoiflahoihaaGreatDoor
