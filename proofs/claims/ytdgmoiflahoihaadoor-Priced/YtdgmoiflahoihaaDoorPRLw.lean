import Derived.Test.YtdgmoiflahoihaaDoorPRPw
import Derived.Test.YtdgmoiflahoihaaDoorBLWw
import Derived.Test.YtdgmoiflahoihaaDoorKPickw

namespace Go.Proofs.YtdgmoiflahoihaaDoor
open Go.RowKit
set_option linter.unusedSimpArgs false
set_option linter.unusedVariables false
theorem dec_two {a b : Nat} (ha : 1 ≤ a) (ha2 : a < 10) (hb : b < 10) : decB (10 * a + b) = [UInt8.ofNat (48 + a), UInt8.ofNat (48 + b)] := by
 rw [decB_snoc ha hb, decB_small ha2]
 rfl
theorem int37 : intB 37 = [51, 55] := (intB_nat 37).trans (dec_two (a := 3) (b := 7) (by decide) (by decide) (by decide))
theorem int49 : intB 49 = [52, 57] := (intB_nat 49).trans (dec_two (a := 4) (b := 9) (by decide) (by decide) (by decide))
theorem int60 : intB 60 = [54, 48] := (intB_nat 60).trans (dec_two (a := 6) (b := 0) (by decide) (by decide) (by decide))
theorem int68 : intB 68 = [54, 56] := (intB_nat 68).trans (dec_two (a := 6) (b := 8) (by decide) (by decide) (by decide))
theorem note_two (p : Nat) (l : Nat) (v : Int) (a b : UInt8) (h : intB (p : Int) = [a, b]) : noteB ⟨0, p, l, ⟨v, 0⟩⟩ = [a, b, 58] ++ intB v ++ [10] := by
 unfold noteB lineB
 simp only
 rw [h]
 have : worthB ⟨v, 0⟩ = intB v := by unfold worthB; simp
 rw [this]
 simp
theorem or_and : ∀ r : Nat, r < 16 → bits .or .i64 0 (r : Int) = (r : Int) ∧ (bits .or .i64 4 (r : Int) == (r : Int)) = (bits .and .i64 (r : Int) 4 != 0) := by decide +kernel
theorem num_three (w : World) (a b c : Int) : NumCells (w.alloc (.cells #[.int .i64 a, .int .i64 b, .int .i64 c] 3)) (some ⟨w.heap.size, 0, none⟩) w.heap.size 0 [a, b, c] := by
 intro i hi
 refine ⟨rfl, by simp, ?_⟩
 match i, hi with
 | 0, _ => simp [go_sem]
 | 1, _ => simp [go_sem]
 | 2, _ => simp [go_sem]
 | i + 3, h => exact absurd h (by simp)
theorem mul_lim {a b A B : Nat} (ha : a ≤ A) (hb : b ≤ B) : (0 : Int) ≤ (a : Int) * (b : Int) ∧ (a : Int) * (b : Int) ≤ ((A * B : Nat) : Int) := by
 have h := Nat.mul_le_mul ha hb
 have e : (a : Int) * (b : Int) = ((a * b : Nat) : Int) := by simp
 rw [e]
 omega
set_option maxRecDepth 100000 in
set_option maxHeartbeats 4000000 in
theorem priced_walk (a b c d : Int) (ha : -9223372036854775808 ≤ a ∧ a ≤ 9223372036854775807) (hb : -9223372036854775808 ≤ b ∧ b ≤ 9223372036854775807) (hc : -9223372036854775808 ≤ c ∧ c ≤ 9223372036854775807) (hd : -9223372036854775808 ≤ d ∧ d ≤ 9223372036854775807) (w : World) (ht : TabOk w) :
  Calls Tryd.prog 3 #[.int .i64 a, .int .i64 b, .int .i64 c, .int .i64 d] w fun e w' => e = .returned (.bool true) ∧ Below w.heap.size w w' := by
 have P1 : Hid (∀ w, Calls Tryd.prog 4 #[.int .i64 a, .int .i64 1000] w fun e w' => e = .returned (.int .i64 (pickN a 1000 : Nat)) ∧ w' = w) := fun w => pick_any a 1000 ha (by decide) (by decide) w
 have P2 : Hid (∀ w, Calls Tryd.prog 4 #[.int .i64 b, .int .i64 100000] w fun e w' => e = .returned (.int .i64 (pickN b 100000 : Nat)) ∧ w' = w) := fun w => pick_any b 100000 hb (by decide) (by decide) w
 have P3 : Hid (∀ w, Calls Tryd.prog 4 #[.int .i64 c, .int .i64 100000] w fun e w' => e = .returned (.int .i64 (pickN c 100000 : Nat)) ∧ w' = w) := fun w => pick_any c 100000 hc (by decide) (by decide) w
 have P4 : Hid (∀ w, Calls Tryd.prog 4 #[.int .i64 d, .int .i64 16] w fun e w' => e = .returned (.int .i64 (pickN d 16 : Nat)) ∧ w' = w) := fun w => pick_any d 16 hd (by decide) (by decide) w
 have hq := pickN_lt a (n := 1000) (by decide)
 have hp := pickN_lt b (n := 100000) (by decide)
 have hk := pickN_lt c (n := 100000) (by decide)
 have hr := pickN_lt d (n := 16) (by decide)
 clear ha hb hc hd
 generalize pickN a 1000 = q at *
 generalize pickN b 100000 = p at *
 generalize pickN c 100000 = k at *
 generalize pickN d 16 = r at *
 obtain ⟨m1, m2⟩ := mul_lim (a := q) (b := p) (A := 999) (B := 99999) (by omega) (by omega)
 obtain ⟨n1, n2⟩ := mul_lim (a := q) (b := k) (A := 999) (B := 99999) (by omega) (by omega)
 generalize htt : (if (9 : Int) < (q : Int) then (q : Int) * (p : Int) - (q : Int) * (p : Int) / 10 else (q : Int) * (p : Int)) = t
 generalize hmm : t - (q : Int) * (k : Int) = m
 have htb : 0 ≤ t ∧ t ≤ 100000000 := by rw [← htt]; split <;> omega
 have hmb : -100000000 ≤ m ∧ m ≤ 100000000 := by omega
 have hrun : runP priceT [(q : Int), (p : Int), (k : Int)] = (0, priceN q t m) := price_run q p k t m (by omega) (by omega) htt.symm hmm.symm
 obtain ⟨o1, o2⟩ := or_and r hr
 have hbill := price_bill (r : Int) (q : Int) t m o1
 have hfo : FsOk [(q : Int), (p : Int), (k : Int)] := by
  intro x hx
  simp at hx
  rcases hx with rfl | rfl | rfl <;> omega
 have hBP : billP (r : Int) (0, priceN q t m) = (0, billB (r : Int) (priceN q t m)) := by unfold billP; rw [if_neg (by simp), if_neg (by omega)]
 have HBL : Hid (∀ (w : World), TabOk w → Calls Tryd.prog 6 #[.string ⟨priceT.toArray⟩, .slice (some ⟨w.heap.size, 0, none⟩) 3 3, .int .i64 (r : Int)] (w.alloc (.cells #[.int .i64 (q : Int), .int .i64 (p : Int), .int .i64 (k : Int)] 3)) fun e w' => e = .returned (.tuple #[.string (txt (billB (r : Int) (priceN q t m))), .int .i64 0]) ∧ Below w.heap.size w w') := by
  intro w h
  have hb0 : Below w.heap.size w (w.alloc (.cells #[.int .i64 (q : Int), .int .i64 (p : Int), .int .i64 (k : Int)] 3)) := (Below.refl _ _).alloc (Nat.le_refl _) _
  have hx := billText_any ⟨priceT.toArray⟩ (.slice (some ⟨w.heap.size, 0, none⟩) 3 3) (r : Int) (w.alloc (.cells #[.int .i64 (q : Int), .int .i64 (p : Int), .int .i64 (k : Int)] 3)) (runP priceT [(q : Int), (p : Int), (k : Int)]) (fun w' e => by
   subst e
   have := progText_any ⟨priceT.toArray⟩ [(q : Int), (p : Int), (k : Int)] w.heap.size 3 _ (by show priceT.length ≤ maxLen; unfold maxLen; decide) (num_three w q p k) (by unfold maxLen; simp) hfo
   simpa using this) (runP_few priceT _ hfo) (runP_nts priceT _ hfo) (h.below hb0)
  rw [hrun, hBP] at hx
  refine hx.mono ?_
  rintro e w' ⟨rfl, hb⟩
  exact ⟨rfl, hb0.trans (hb.mono (by simp))⟩
 have HI : Hid (∀ (n : Int) (w : World), -9223372036854775808 ≤ n ∧ n ≤ 9223372036854775807 → TabOk w → Calls Tryd.prog 5 #[.int .i64 n] w fun e w' => e = .returned (.string (txt (intB n))) ∧ Below w.heap.size w w') := fun n w h1 h2 => itoa_any n h1 w h2
 have HI1 : Hid (∀ (w : World), TabOk w → Calls Tryd.prog 5 #[.int .i64 t] w fun e w' => e = .returned (.string (txt (intB t))) ∧ Below w.heap.size w w') := fun w h => HI.out t w (by omega) h
 have HI2 : Hid (∀ (w : World), TabOk w → Calls Tryd.prog 5 #[.int .i64 m] w fun e w' => e = .returned (.string (txt (intB m))) ∧ Below w.heap.size w w') := fun w h => HI.out m w (by omega) h
 have HI3 : Hid (∀ (w : World), TabOk w → Calls Tryd.prog 5 #[.int .i64 (-m)] w fun e w' => e = .returned (.string (txt (intB (-m)))) ∧ Below w.heap.size w w') := fun w h => HI.out (-m) w (by omega) h
 have HI4 : Hid (∀ (w : World), TabOk w → Calls Tryd.prog 5 #[.int .i64 (q : Int)] w fun e w' => e = .returned (.string (txt (intB (q : Int)))) ∧ Below w.heap.size w w') := fun w h => HI.out (q : Int) w (by omega) h
 have l1 : (txt (intB t)).size ≤ 20 := intB_len20 t (by omega)
 have l2 : (txt (intB m)).size ≤ 20 := intB_len20 m (by omega)
 have l3 : (txt (intB (-m))).size ≤ 20 := intB_len20 (-m) (by omega)
 have l4 : (txt (intB (q : Int))).size ≤ 20 := intB_len20 (q : Int) (by omega)
 rw [note_two 37 0 t 51 55 int37, note_two 49 4 m 52 57 int49, note_two 60 4 (-m) 54 48 int60, note_two 68 0 (q : Int) 54 56 int68, o2] at hbill
 have hd10 : ((q : Int) * (p : Int)).tdiv 10 = (q : Int) * (p : Int) / 10 := Int.tdiv_eq_ediv_of_nonneg m1
 have HT : Hid (TabOk w) := ht
 clear HI hBP hrun hfo o1 o2 ht
 unfold priceT at HBL
 by_cases h9 : (9 : Int) < (q : Int)
 ·have t9 : decide ((9 : Int) < (q : Int)) = true := decide_eq_true h9
  rw [if_pos h9] at htt
  subst htt
  subst hmm
  cases hG : (bits .and .i64 (r : Int) 4 != 0)
  ·rw [hG] at hbill
   have E : txt (billB (r : Int) (priceN q ((q : Int) * (p : Int) - (q : Int) * (p : Int) / 10) (((q : Int) * (p : Int) - (q : Int) * (p : Int) / 10) - (q : Int) * (k : Int)))) = (⟨#[51, 55, 58]⟩ ++ txt (intB ((q : Int) * (p : Int) - (q : Int) * (p : Int) / 10)) ++ ⟨#[10]⟩ ++ ⟨#[54, 56, 58]⟩ ++ txt (intB (q : Int)) ++ ⟨#[10]⟩ : ByteArray) := by
    have e0 : (⟨#[51, 55, 58]⟩ ++ txt (intB ((q : Int) * (p : Int) - (q : Int) * (p : Int) / 10)) ++ ⟨#[10]⟩ ++ ⟨#[54, 56, 58]⟩ ++ txt (intB (q : Int)) ++ ⟨#[10]⟩ : ByteArray) = txt [51, 55, 58] ++ txt (intB ((q : Int) * (p : Int) - (q : Int) * (p : Int) / 10)) ++ txt [10] ++ txt [54, 56, 58] ++ txt (intB (q : Int)) ++ txt [10] := rfl
    rw [e0, hbill]
    simp only [txt_append]
    congr 1
    simp
   rw [E] at HBL
   clear E hbill
   generalize txt (intB ((q : Int) * (p : Int) - (q : Int) * (p : Int) / 10)) = T1 at *
   generalize txt (intB (((q : Int) * (p : Int) - (q : Int) * (p : Int) / 10) - (q : Int) * (k : Int))) = T2 at *
   generalize txt (intB (-(((q : Int) * (p : Int) - (q : Int) * (p : Int) / 10) - (q : Int) * (k : Int)))) = T3 at *
   generalize txt (intB (q : Int)) = T4 at *
   go_enter Tryd.func3, Tryd.ntmps3
   go_wp2_with (first | (go_at_call 6; refine (HBL.out _ HT2.out).mono ?_; rintro e wz ⟨rfl, hbz⟩; have HBz : Hid (Below w.heap.size w wz) := HB2.out.trans (hbz.mono HB2.out.size); clear hbz) | (go_at_call 5; refine (HI4.out _ HT1.out).mono ?_; rintro e w2 ⟨rfl, hb2⟩; have HB2 : Hid (Below w.heap.size w w2) := HB1.out.trans (hb2.mono HB1.out.size); have HT2 : Hid (TabOk w2) := HT1.out.below hb2; clear hb2) | (go_at_call 5; refine (HI1.out _ HT.out).mono ?_; rintro e w1 ⟨rfl, hb1⟩; have HB1 : Hid (Below w.heap.size w w1) := hb1; have HT1 : Hid (TabOk w1) := HT.out.below hb1; clear hb1) | (go_at_call 4; have KQ4 := KP3; refine (P4.out _).mono ?_; rintro e wp ⟨rfl, hwp⟩; rw [hwp]; clear hwp; have KP4 : True := trivial) | (go_at_call 4; have KQ3 := KP2; refine (P3.out _).mono ?_; rintro e wp ⟨rfl, hwp⟩; rw [hwp]; clear hwp; have KP3 : True := trivial) | (go_at_call 4; have KQ2 := KP1; refine (P2.out _).mono ?_; rintro e wp ⟨rfl, hwp⟩; rw [hwp]; clear hwp; have KP2 : True := trivial) | (go_at_call 4; refine (P1.out _).mono ?_; rintro e wp ⟨rfl, hwp⟩; rw [hwp]; clear hwp; have KP1 : True := trivial))
   go_ret
   exact ⟨rfl, HBz.out⟩
  ·rw [hG] at hbill
   by_cases hneg : (((q : Int) * (p : Int) - (q : Int) * (p : Int) / 10) - (q : Int) * (k : Int)) < 0
   ·have tn : decide ((((q : Int) * (p : Int) - (q : Int) * (p : Int) / 10) - (q : Int) * (k : Int)) < 0) = true := decide_eq_true hneg
    have E : txt (billB (r : Int) (priceN q ((q : Int) * (p : Int) - (q : Int) * (p : Int) / 10) (((q : Int) * (p : Int) - (q : Int) * (p : Int) / 10) - (q : Int) * (k : Int)))) = (⟨#[51, 55, 58]⟩ ++ txt (intB ((q : Int) * (p : Int) - (q : Int) * (p : Int) / 10)) ++ ⟨#[10]⟩ ++ ⟨#[52, 57, 58]⟩ ++ txt (intB (((q : Int) * (p : Int) - (q : Int) * (p : Int) / 10) - (q : Int) * (k : Int))) ++ ⟨#[10]⟩ ++ ⟨#[54, 48, 58]⟩ ++ txt (intB (-(((q : Int) * (p : Int) - (q : Int) * (p : Int) / 10) - (q : Int) * (k : Int)))) ++ ⟨#[10]⟩ ++ ⟨#[54, 56, 58]⟩ ++ txt (intB (q : Int)) ++ ⟨#[10]⟩ : ByteArray) := by
     have e0 : (⟨#[51, 55, 58]⟩ ++ txt (intB ((q : Int) * (p : Int) - (q : Int) * (p : Int) / 10)) ++ ⟨#[10]⟩ ++ ⟨#[52, 57, 58]⟩ ++ txt (intB (((q : Int) * (p : Int) - (q : Int) * (p : Int) / 10) - (q : Int) * (k : Int))) ++ ⟨#[10]⟩ ++ ⟨#[54, 48, 58]⟩ ++ txt (intB (-(((q : Int) * (p : Int) - (q : Int) * (p : Int) / 10) - (q : Int) * (k : Int)))) ++ ⟨#[10]⟩ ++ ⟨#[54, 56, 58]⟩ ++ txt (intB (q : Int)) ++ ⟨#[10]⟩ : ByteArray) = txt [51, 55, 58] ++ txt (intB ((q : Int) * (p : Int) - (q : Int) * (p : Int) / 10)) ++ txt [10] ++ txt [52, 57, 58] ++ txt (intB (((q : Int) * (p : Int) - (q : Int) * (p : Int) / 10) - (q : Int) * (k : Int))) ++ txt [10] ++ txt [54, 48, 58] ++ txt (intB (-(((q : Int) * (p : Int) - (q : Int) * (p : Int) / 10) - (q : Int) * (k : Int)))) ++ txt [10] ++ txt [54, 56, 58] ++ txt (intB (q : Int)) ++ txt [10] := rfl
     rw [e0, hbill]
     simp only [txt_append]
     congr 1
     simp [hneg]
    rw [E] at HBL
    clear E hbill
    generalize txt (intB ((q : Int) * (p : Int) - (q : Int) * (p : Int) / 10)) = T1 at *
    generalize txt (intB (((q : Int) * (p : Int) - (q : Int) * (p : Int) / 10) - (q : Int) * (k : Int))) = T2 at *
    generalize txt (intB (-(((q : Int) * (p : Int) - (q : Int) * (p : Int) / 10) - (q : Int) * (k : Int)))) = T3 at *
    generalize txt (intB (q : Int)) = T4 at *
    go_enter Tryd.func3, Tryd.ntmps3
    go_wp2_with (first | (go_at_call 6; refine (HBL.out _ HT4.out).mono ?_; rintro e wz ⟨rfl, hbz⟩; have HBz : Hid (Below w.heap.size w wz) := HB4.out.trans (hbz.mono HB4.out.size); clear hbz) | (go_at_call 5; refine (HI4.out _ HT3.out).mono ?_; rintro e w4 ⟨rfl, hb4⟩; have HB4 : Hid (Below w.heap.size w w4) := HB3.out.trans (hb4.mono HB3.out.size); have HT4 : Hid (TabOk w4) := HT3.out.below hb4; clear hb4) | (go_at_call 5; refine (HI3.out _ HT2.out).mono ?_; rintro e w3 ⟨rfl, hb3⟩; have HB3 : Hid (Below w.heap.size w w3) := HB2.out.trans (hb3.mono HB2.out.size); have HT3 : Hid (TabOk w3) := HT2.out.below hb3; clear hb3) | (go_at_call 5; refine (HI2.out _ HT1.out).mono ?_; rintro e w2 ⟨rfl, hb2⟩; have HB2 : Hid (Below w.heap.size w w2) := HB1.out.trans (hb2.mono HB1.out.size); have HT2 : Hid (TabOk w2) := HT1.out.below hb2; clear hb2) | (go_at_call 5; refine (HI1.out _ HT.out).mono ?_; rintro e w1 ⟨rfl, hb1⟩; have HB1 : Hid (Below w.heap.size w w1) := hb1; have HT1 : Hid (TabOk w1) := HT.out.below hb1; clear hb1) | (go_at_call 4; have KQ4 := KP3; refine (P4.out _).mono ?_; rintro e wp ⟨rfl, hwp⟩; rw [hwp]; clear hwp; have KP4 : True := trivial) | (go_at_call 4; have KQ3 := KP2; refine (P3.out _).mono ?_; rintro e wp ⟨rfl, hwp⟩; rw [hwp]; clear hwp; have KP3 : True := trivial) | (go_at_call 4; have KQ2 := KP1; refine (P2.out _).mono ?_; rintro e wp ⟨rfl, hwp⟩; rw [hwp]; clear hwp; have KP2 : True := trivial) | (go_at_call 4; refine (P1.out _).mono ?_; rintro e wp ⟨rfl, hwp⟩; rw [hwp]; clear hwp; have KP1 : True := trivial))
    go_ret
    exact ⟨rfl, HBz.out⟩
   ·have tn : decide ((((q : Int) * (p : Int) - (q : Int) * (p : Int) / 10) - (q : Int) * (k : Int)) < 0) = false := decide_eq_false hneg
    have E : txt (billB (r : Int) (priceN q ((q : Int) * (p : Int) - (q : Int) * (p : Int) / 10) (((q : Int) * (p : Int) - (q : Int) * (p : Int) / 10) - (q : Int) * (k : Int)))) = (⟨#[51, 55, 58]⟩ ++ txt (intB ((q : Int) * (p : Int) - (q : Int) * (p : Int) / 10)) ++ ⟨#[10]⟩ ++ ⟨#[52, 57, 58]⟩ ++ txt (intB (((q : Int) * (p : Int) - (q : Int) * (p : Int) / 10) - (q : Int) * (k : Int))) ++ ⟨#[10]⟩ ++ ⟨#[54, 56, 58]⟩ ++ txt (intB (q : Int)) ++ ⟨#[10]⟩ : ByteArray) := by
     have e0 : (⟨#[51, 55, 58]⟩ ++ txt (intB ((q : Int) * (p : Int) - (q : Int) * (p : Int) / 10)) ++ ⟨#[10]⟩ ++ ⟨#[52, 57, 58]⟩ ++ txt (intB (((q : Int) * (p : Int) - (q : Int) * (p : Int) / 10) - (q : Int) * (k : Int))) ++ ⟨#[10]⟩ ++ ⟨#[54, 56, 58]⟩ ++ txt (intB (q : Int)) ++ ⟨#[10]⟩ : ByteArray) = txt [51, 55, 58] ++ txt (intB ((q : Int) * (p : Int) - (q : Int) * (p : Int) / 10)) ++ txt [10] ++ txt [52, 57, 58] ++ txt (intB (((q : Int) * (p : Int) - (q : Int) * (p : Int) / 10) - (q : Int) * (k : Int))) ++ txt [10] ++ txt [54, 56, 58] ++ txt (intB (q : Int)) ++ txt [10] := rfl
     rw [e0, hbill]
     simp only [txt_append]
     congr 1
     simp [hneg]
    rw [E] at HBL
    clear E hbill
    generalize txt (intB ((q : Int) * (p : Int) - (q : Int) * (p : Int) / 10)) = T1 at *
    generalize txt (intB (((q : Int) * (p : Int) - (q : Int) * (p : Int) / 10) - (q : Int) * (k : Int))) = T2 at *
    generalize txt (intB (-(((q : Int) * (p : Int) - (q : Int) * (p : Int) / 10) - (q : Int) * (k : Int)))) = T3 at *
    generalize txt (intB (q : Int)) = T4 at *
    go_enter Tryd.func3, Tryd.ntmps3
    go_wp2_with (first | (go_at_call 6; refine (HBL.out _ HT3.out).mono ?_; rintro e wz ⟨rfl, hbz⟩; have HBz : Hid (Below w.heap.size w wz) := HB3.out.trans (hbz.mono HB3.out.size); clear hbz) | (go_at_call 5; refine (HI4.out _ HT2.out).mono ?_; rintro e w3 ⟨rfl, hb3⟩; have HB3 : Hid (Below w.heap.size w w3) := HB2.out.trans (hb3.mono HB2.out.size); have HT3 : Hid (TabOk w3) := HT2.out.below hb3; clear hb3) | (go_at_call 5; refine (HI2.out _ HT1.out).mono ?_; rintro e w2 ⟨rfl, hb2⟩; have HB2 : Hid (Below w.heap.size w w2) := HB1.out.trans (hb2.mono HB1.out.size); have HT2 : Hid (TabOk w2) := HT1.out.below hb2; clear hb2) | (go_at_call 5; refine (HI1.out _ HT.out).mono ?_; rintro e w1 ⟨rfl, hb1⟩; have HB1 : Hid (Below w.heap.size w w1) := hb1; have HT1 : Hid (TabOk w1) := HT.out.below hb1; clear hb1) | (go_at_call 4; have KQ4 := KP3; refine (P4.out _).mono ?_; rintro e wp ⟨rfl, hwp⟩; rw [hwp]; clear hwp; have KP4 : True := trivial) | (go_at_call 4; have KQ3 := KP2; refine (P3.out _).mono ?_; rintro e wp ⟨rfl, hwp⟩; rw [hwp]; clear hwp; have KP3 : True := trivial) | (go_at_call 4; have KQ2 := KP1; refine (P2.out _).mono ?_; rintro e wp ⟨rfl, hwp⟩; rw [hwp]; clear hwp; have KP2 : True := trivial) | (go_at_call 4; refine (P1.out _).mono ?_; rintro e wp ⟨rfl, hwp⟩; rw [hwp]; clear hwp; have KP1 : True := trivial))
    go_ret
    exact ⟨rfl, HBz.out⟩
 ·have t9 : decide ((9 : Int) < (q : Int)) = false := decide_eq_false h9
  rw [if_neg h9] at htt
  subst htt
  subst hmm
  cases hG : (bits .and .i64 (r : Int) 4 != 0)
  ·rw [hG] at hbill
   have E : txt (billB (r : Int) (priceN q ((q : Int) * (p : Int)) (((q : Int) * (p : Int)) - (q : Int) * (k : Int)))) = (⟨#[51, 55, 58]⟩ ++ txt (intB ((q : Int) * (p : Int))) ++ ⟨#[10]⟩ ++ ⟨#[54, 56, 58]⟩ ++ txt (intB (q : Int)) ++ ⟨#[10]⟩ : ByteArray) := by
    have e0 : (⟨#[51, 55, 58]⟩ ++ txt (intB ((q : Int) * (p : Int))) ++ ⟨#[10]⟩ ++ ⟨#[54, 56, 58]⟩ ++ txt (intB (q : Int)) ++ ⟨#[10]⟩ : ByteArray) = txt [51, 55, 58] ++ txt (intB ((q : Int) * (p : Int))) ++ txt [10] ++ txt [54, 56, 58] ++ txt (intB (q : Int)) ++ txt [10] := rfl
    rw [e0, hbill]
    simp only [txt_append]
    congr 1
    simp
   rw [E] at HBL
   clear E hbill
   generalize txt (intB ((q : Int) * (p : Int))) = T1 at *
   generalize txt (intB (((q : Int) * (p : Int)) - (q : Int) * (k : Int))) = T2 at *
   generalize txt (intB (-(((q : Int) * (p : Int)) - (q : Int) * (k : Int)))) = T3 at *
   generalize txt (intB (q : Int)) = T4 at *
   go_enter Tryd.func3, Tryd.ntmps3
   go_wp2_with (first | (go_at_call 6; refine (HBL.out _ HT2.out).mono ?_; rintro e wz ⟨rfl, hbz⟩; have HBz : Hid (Below w.heap.size w wz) := HB2.out.trans (hbz.mono HB2.out.size); clear hbz) | (go_at_call 5; refine (HI4.out _ HT1.out).mono ?_; rintro e w2 ⟨rfl, hb2⟩; have HB2 : Hid (Below w.heap.size w w2) := HB1.out.trans (hb2.mono HB1.out.size); have HT2 : Hid (TabOk w2) := HT1.out.below hb2; clear hb2) | (go_at_call 5; refine (HI1.out _ HT.out).mono ?_; rintro e w1 ⟨rfl, hb1⟩; have HB1 : Hid (Below w.heap.size w w1) := hb1; have HT1 : Hid (TabOk w1) := HT.out.below hb1; clear hb1) | (go_at_call 4; have KQ4 := KP3; refine (P4.out _).mono ?_; rintro e wp ⟨rfl, hwp⟩; rw [hwp]; clear hwp; have KP4 : True := trivial) | (go_at_call 4; have KQ3 := KP2; refine (P3.out _).mono ?_; rintro e wp ⟨rfl, hwp⟩; rw [hwp]; clear hwp; have KP3 : True := trivial) | (go_at_call 4; have KQ2 := KP1; refine (P2.out _).mono ?_; rintro e wp ⟨rfl, hwp⟩; rw [hwp]; clear hwp; have KP2 : True := trivial) | (go_at_call 4; refine (P1.out _).mono ?_; rintro e wp ⟨rfl, hwp⟩; rw [hwp]; clear hwp; have KP1 : True := trivial))
   go_ret
   exact ⟨rfl, HBz.out⟩
  ·rw [hG] at hbill
   by_cases hneg : (((q : Int) * (p : Int)) - (q : Int) * (k : Int)) < 0
   ·have tn : decide ((((q : Int) * (p : Int)) - (q : Int) * (k : Int)) < 0) = true := decide_eq_true hneg
    have E : txt (billB (r : Int) (priceN q ((q : Int) * (p : Int)) (((q : Int) * (p : Int)) - (q : Int) * (k : Int)))) = (⟨#[51, 55, 58]⟩ ++ txt (intB ((q : Int) * (p : Int))) ++ ⟨#[10]⟩ ++ ⟨#[52, 57, 58]⟩ ++ txt (intB (((q : Int) * (p : Int)) - (q : Int) * (k : Int))) ++ ⟨#[10]⟩ ++ ⟨#[54, 48, 58]⟩ ++ txt (intB (-(((q : Int) * (p : Int)) - (q : Int) * (k : Int)))) ++ ⟨#[10]⟩ ++ ⟨#[54, 56, 58]⟩ ++ txt (intB (q : Int)) ++ ⟨#[10]⟩ : ByteArray) := by
     have e0 : (⟨#[51, 55, 58]⟩ ++ txt (intB ((q : Int) * (p : Int))) ++ ⟨#[10]⟩ ++ ⟨#[52, 57, 58]⟩ ++ txt (intB (((q : Int) * (p : Int)) - (q : Int) * (k : Int))) ++ ⟨#[10]⟩ ++ ⟨#[54, 48, 58]⟩ ++ txt (intB (-(((q : Int) * (p : Int)) - (q : Int) * (k : Int)))) ++ ⟨#[10]⟩ ++ ⟨#[54, 56, 58]⟩ ++ txt (intB (q : Int)) ++ ⟨#[10]⟩ : ByteArray) = txt [51, 55, 58] ++ txt (intB ((q : Int) * (p : Int))) ++ txt [10] ++ txt [52, 57, 58] ++ txt (intB (((q : Int) * (p : Int)) - (q : Int) * (k : Int))) ++ txt [10] ++ txt [54, 48, 58] ++ txt (intB (-(((q : Int) * (p : Int)) - (q : Int) * (k : Int)))) ++ txt [10] ++ txt [54, 56, 58] ++ txt (intB (q : Int)) ++ txt [10] := rfl
     rw [e0, hbill]
     simp only [txt_append]
     congr 1
     simp [hneg]
    rw [E] at HBL
    clear E hbill
    generalize txt (intB ((q : Int) * (p : Int))) = T1 at *
    generalize txt (intB (((q : Int) * (p : Int)) - (q : Int) * (k : Int))) = T2 at *
    generalize txt (intB (-(((q : Int) * (p : Int)) - (q : Int) * (k : Int)))) = T3 at *
    generalize txt (intB (q : Int)) = T4 at *
    go_enter Tryd.func3, Tryd.ntmps3
    go_wp2_with (first | (go_at_call 6; refine (HBL.out _ HT4.out).mono ?_; rintro e wz ⟨rfl, hbz⟩; have HBz : Hid (Below w.heap.size w wz) := HB4.out.trans (hbz.mono HB4.out.size); clear hbz) | (go_at_call 5; refine (HI4.out _ HT3.out).mono ?_; rintro e w4 ⟨rfl, hb4⟩; have HB4 : Hid (Below w.heap.size w w4) := HB3.out.trans (hb4.mono HB3.out.size); have HT4 : Hid (TabOk w4) := HT3.out.below hb4; clear hb4) | (go_at_call 5; refine (HI3.out _ HT2.out).mono ?_; rintro e w3 ⟨rfl, hb3⟩; have HB3 : Hid (Below w.heap.size w w3) := HB2.out.trans (hb3.mono HB2.out.size); have HT3 : Hid (TabOk w3) := HT2.out.below hb3; clear hb3) | (go_at_call 5; refine (HI2.out _ HT1.out).mono ?_; rintro e w2 ⟨rfl, hb2⟩; have HB2 : Hid (Below w.heap.size w w2) := HB1.out.trans (hb2.mono HB1.out.size); have HT2 : Hid (TabOk w2) := HT1.out.below hb2; clear hb2) | (go_at_call 5; refine (HI1.out _ HT.out).mono ?_; rintro e w1 ⟨rfl, hb1⟩; have HB1 : Hid (Below w.heap.size w w1) := hb1; have HT1 : Hid (TabOk w1) := HT.out.below hb1; clear hb1) | (go_at_call 4; have KQ4 := KP3; refine (P4.out _).mono ?_; rintro e wp ⟨rfl, hwp⟩; rw [hwp]; clear hwp; have KP4 : True := trivial) | (go_at_call 4; have KQ3 := KP2; refine (P3.out _).mono ?_; rintro e wp ⟨rfl, hwp⟩; rw [hwp]; clear hwp; have KP3 : True := trivial) | (go_at_call 4; have KQ2 := KP1; refine (P2.out _).mono ?_; rintro e wp ⟨rfl, hwp⟩; rw [hwp]; clear hwp; have KP2 : True := trivial) | (go_at_call 4; refine (P1.out _).mono ?_; rintro e wp ⟨rfl, hwp⟩; rw [hwp]; clear hwp; have KP1 : True := trivial))
    go_ret
    exact ⟨rfl, HBz.out⟩
   ·have tn : decide ((((q : Int) * (p : Int)) - (q : Int) * (k : Int)) < 0) = false := decide_eq_false hneg
    have E : txt (billB (r : Int) (priceN q ((q : Int) * (p : Int)) (((q : Int) * (p : Int)) - (q : Int) * (k : Int)))) = (⟨#[51, 55, 58]⟩ ++ txt (intB ((q : Int) * (p : Int))) ++ ⟨#[10]⟩ ++ ⟨#[52, 57, 58]⟩ ++ txt (intB (((q : Int) * (p : Int)) - (q : Int) * (k : Int))) ++ ⟨#[10]⟩ ++ ⟨#[54, 56, 58]⟩ ++ txt (intB (q : Int)) ++ ⟨#[10]⟩ : ByteArray) := by
     have e0 : (⟨#[51, 55, 58]⟩ ++ txt (intB ((q : Int) * (p : Int))) ++ ⟨#[10]⟩ ++ ⟨#[52, 57, 58]⟩ ++ txt (intB (((q : Int) * (p : Int)) - (q : Int) * (k : Int))) ++ ⟨#[10]⟩ ++ ⟨#[54, 56, 58]⟩ ++ txt (intB (q : Int)) ++ ⟨#[10]⟩ : ByteArray) = txt [51, 55, 58] ++ txt (intB ((q : Int) * (p : Int))) ++ txt [10] ++ txt [52, 57, 58] ++ txt (intB (((q : Int) * (p : Int)) - (q : Int) * (k : Int))) ++ txt [10] ++ txt [54, 56, 58] ++ txt (intB (q : Int)) ++ txt [10] := rfl
     rw [e0, hbill]
     simp only [txt_append]
     congr 1
     simp [hneg]
    rw [E] at HBL
    clear E hbill
    generalize txt (intB ((q : Int) * (p : Int))) = T1 at *
    generalize txt (intB (((q : Int) * (p : Int)) - (q : Int) * (k : Int))) = T2 at *
    generalize txt (intB (-(((q : Int) * (p : Int)) - (q : Int) * (k : Int)))) = T3 at *
    generalize txt (intB (q : Int)) = T4 at *
    go_enter Tryd.func3, Tryd.ntmps3
    go_wp2_with (first | (go_at_call 6; refine (HBL.out _ HT3.out).mono ?_; rintro e wz ⟨rfl, hbz⟩; have HBz : Hid (Below w.heap.size w wz) := HB3.out.trans (hbz.mono HB3.out.size); clear hbz) | (go_at_call 5; refine (HI4.out _ HT2.out).mono ?_; rintro e w3 ⟨rfl, hb3⟩; have HB3 : Hid (Below w.heap.size w w3) := HB2.out.trans (hb3.mono HB2.out.size); have HT3 : Hid (TabOk w3) := HT2.out.below hb3; clear hb3) | (go_at_call 5; refine (HI2.out _ HT1.out).mono ?_; rintro e w2 ⟨rfl, hb2⟩; have HB2 : Hid (Below w.heap.size w w2) := HB1.out.trans (hb2.mono HB1.out.size); have HT2 : Hid (TabOk w2) := HT1.out.below hb2; clear hb2) | (go_at_call 5; refine (HI1.out _ HT.out).mono ?_; rintro e w1 ⟨rfl, hb1⟩; have HB1 : Hid (Below w.heap.size w w1) := hb1; have HT1 : Hid (TabOk w1) := HT.out.below hb1; clear hb1) | (go_at_call 4; have KQ4 := KP3; refine (P4.out _).mono ?_; rintro e wp ⟨rfl, hwp⟩; rw [hwp]; clear hwp; have KP4 : True := trivial) | (go_at_call 4; have KQ3 := KP2; refine (P3.out _).mono ?_; rintro e wp ⟨rfl, hwp⟩; rw [hwp]; clear hwp; have KP3 : True := trivial) | (go_at_call 4; have KQ2 := KP1; refine (P2.out _).mono ?_; rintro e wp ⟨rfl, hwp⟩; rw [hwp]; clear hwp; have KP2 : True := trivial) | (go_at_call 4; refine (P1.out _).mono ?_; rintro e wp ⟨rfl, hwp⟩; rw [hwp]; clear hwp; have KP1 : True := trivial))
    go_ret
    exact ⟨rfl, HBz.out⟩
end Go.Proofs.YtdgmoiflahoihaaDoor
