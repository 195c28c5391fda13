import Derived.Test.YtdgmoiflahoihaaGreatDoorCFloww
import Derived.Test.YtdgmoiflahoihaaGreatDoorPlainw
import Derived.Laws.Tables

namespace Go.Proofs.YtdgmoiflahoihaaGreatDoor
open Go.RowKit
set_option linter.unusedSimpArgs false
set_option linter.unusedVariables false
def zero26 : List Nat := List.replicate 26 0
theorem BoxAt.keep {w w' : World} {B K : Nat} {of : List Nat} (h : BoxAt w B of) (hb : Below K w w') (hK : B < K) : BoxAt w' B of := by
 have := hb.block B hK
 unfold BoxAt at *
 rw [this, h]
theorem BoxAt.frozen {w : World} {B : Nat} {of : List Nat} (h : BoxAt w B of) (k : Nat) : w.frozen? ⟨B, k, none⟩ = false := by
 unfold BoxAt at h
 simp [World.frozen?, h]
theorem BoxAt.set {w : World} {B : Nat} {of : List Nat} (h : BoxAt w B of) (k m : Nat) : BoxAt (w.setCell ⟨B, k, none⟩ (.int .i64 (m : Nat))) B (of.set k m) := by
 unfold BoxAt at *
 rw [heap_setCell_same w B k _ _ _ h]
 congr 2
 apply Array.ext'
 simp [arrV, natV, List.map_set]
theorem BoxAt.setRow {w : World} {B : Nat} {of : List Nat} (new : List Nat) (h : BoxAt w B of) : BoxAt (w.setRow B (arrV new)) B new := by
 unfold BoxAt at *
 exact setRow_heap w B _ _ _ _ h
theorem below_setRow {w w' : World} {B K : Nat} {cs : Array Value} (h : Below K w w') (hB : K ≤ B) : Below K w (w'.setRow B cs) := by
 refine h.trans ⟨rfl, rfl, rfl, by simp, fun k hk => ?_⟩
 simp only [World.setRow]
 rw [Array.getElem?_modify, if_neg (by omega)]
theorem arr_one (of : List Nat) : (arrV of).all (·.oneCell') = true := by
 rw [Array.all_eq_true_iff_forall_mem]
 intro v hv
 simp [arrV, natV] at hv
 obtain ⟨n, _, rfl⟩ := hv
 rfl
theorem zeroArr : arrV zero26 = #[.int .i64 0, .int .i64 0, .int .i64 0, .int .i64 0, .int .i64 0, .int .i64 0, .int .i64 0, .int .i64 0, .int .i64 0, .int .i64 0, .int .i64 0, .int .i64 0, .int .i64 0, .int .i64 0, .int .i64 0, .int .i64 0, .int .i64 0, .int .i64 0, .int .i64 0, .int .i64 0, .int .i64 0, .int .i64 0, .int .i64 0, .int .i64 0, .int .i64 0, .int .i64 0] := by rfl
theorem box_zero (w : World) : BoxAt (w.alloc (.cells #[.int .i64 0, .int .i64 0, .int .i64 0, .int .i64 0, .int .i64 0, .int .i64 0, .int .i64 0, .int .i64 0, .int .i64 0, .int .i64 0, .int .i64 0, .int .i64 0, .int .i64 0, .int .i64 0, .int .i64 0, .int .i64 0, .int .i64 0, .int .i64 0, .int .i64 0, .int .i64 0, .int .i64 0, .int .i64 0, .int .i64 0, .int .i64 0, .int .i64 0, .int .i64 0] 69)) w.heap.size zero26 := by
 have := BoxAt.new w zero26
 rwa [zeroArr] at this
theorem two_zero (w : World) : BoxAt ((w.alloc (.cells #[.int .i64 0, .int .i64 0, .int .i64 0, .int .i64 0, .int .i64 0, .int .i64 0, .int .i64 0, .int .i64 0, .int .i64 0, .int .i64 0, .int .i64 0, .int .i64 0, .int .i64 0, .int .i64 0, .int .i64 0, .int .i64 0, .int .i64 0, .int .i64 0, .int .i64 0, .int .i64 0, .int .i64 0, .int .i64 0, .int .i64 0, .int .i64 0, .int .i64 0, .int .i64 0] 69)).alloc (.cells #[.int .i64 0, .int .i64 0, .int .i64 0, .int .i64 0, .int .i64 0, .int .i64 0, .int .i64 0, .int .i64 0, .int .i64 0, .int .i64 0, .int .i64 0, .int .i64 0, .int .i64 0, .int .i64 0, .int .i64 0, .int .i64 0, .int .i64 0, .int .i64 0, .int .i64 0, .int .i64 0, .int .i64 0, .int .i64 0, .int .i64 0, .int .i64 0, .int .i64 0, .int .i64 0] 69)) w.heap.size zero26 ∧ BoxAt ((w.alloc (.cells #[.int .i64 0, .int .i64 0, .int .i64 0, .int .i64 0, .int .i64 0, .int .i64 0, .int .i64 0, .int .i64 0, .int .i64 0, .int .i64 0, .int .i64 0, .int .i64 0, .int .i64 0, .int .i64 0, .int .i64 0, .int .i64 0, .int .i64 0, .int .i64 0, .int .i64 0, .int .i64 0, .int .i64 0, .int .i64 0, .int .i64 0, .int .i64 0, .int .i64 0, .int .i64 0] 69)).alloc (.cells #[.int .i64 0, .int .i64 0, .int .i64 0, .int .i64 0, .int .i64 0, .int .i64 0, .int .i64 0, .int .i64 0, .int .i64 0, .int .i64 0, .int .i64 0, .int .i64 0, .int .i64 0, .int .i64 0, .int .i64 0, .int .i64 0, .int .i64 0, .int .i64 0, .int .i64 0, .int .i64 0, .int .i64 0, .int .i64 0, .int .i64 0, .int .i64 0, .int .i64 0, .int .i64 0] 69)) (w.heap.size + 1) zero26 ∧ Below w.heap.size w ((w.alloc (.cells #[.int .i64 0, .int .i64 0, .int .i64 0, .int .i64 0, .int .i64 0, .int .i64 0, .int .i64 0, .int .i64 0, .int .i64 0, .int .i64 0, .int .i64 0, .int .i64 0, .int .i64 0, .int .i64 0, .int .i64 0, .int .i64 0, .int .i64 0, .int .i64 0, .int .i64 0, .int .i64 0, .int .i64 0, .int .i64 0, .int .i64 0, .int .i64 0, .int .i64 0, .int .i64 0] 69)).alloc (.cells #[.int .i64 0, .int .i64 0, .int .i64 0, .int .i64 0, .int .i64 0, .int .i64 0, .int .i64 0, .int .i64 0, .int .i64 0, .int .i64 0, .int .i64 0, .int .i64 0, .int .i64 0, .int .i64 0, .int .i64 0, .int .i64 0, .int .i64 0, .int .i64 0, .int .i64 0, .int .i64 0, .int .i64 0, .int .i64 0, .int .i64 0, .int .i64 0, .int .i64 0, .int .i64 0] 69)) := by
 refine ⟨?_, ?_, ?_⟩
 ·exact (box_zero w).keep (K := w.heap.size + 1) ((Below.refl _ _).alloc (by simp) _) (by omega)
 ·have := box_zero (w.alloc (.cells #[.int .i64 0, .int .i64 0, .int .i64 0, .int .i64 0, .int .i64 0, .int .i64 0, .int .i64 0, .int .i64 0, .int .i64 0, .int .i64 0, .int .i64 0, .int .i64 0, .int .i64 0, .int .i64 0, .int .i64 0, .int .i64 0, .int .i64 0, .int .i64 0, .int .i64 0, .int .i64 0, .int .i64 0, .int .i64 0, .int .i64 0, .int .i64 0, .int .i64 0, .int .i64 0] 69))
  simpa using this
 ·exact ((Below.refl _ _).alloc (Nat.le_refl _) _).alloc (by simp) _
theorem two_zeroD (w : World) : BoxAt ((w.alloc (.cells #[.int .i64 0, .int .i64 0, .int .i64 0, .int .i64 0, .int .i64 0, .int .i64 0, .int .i64 0, .int .i64 0, .int .i64 0, .int .i64 0, .int .i64 0, .int .i64 0, .int .i64 0, .int .i64 0, .int .i64 0, .int .i64 0, .int .i64 0, .int .i64 0, .int .i64 0, .int .i64 0, .int .i64 0, .int .i64 0, .int .i64 0, .int .i64 0, .int .i64 0, .int .i64 0] 69)).alloc (.cells #[.int .i64 0, .int .i64 0, .int .i64 0, .int .i64 0, .int .i64 0, .int .i64 0, .int .i64 0, .int .i64 0, .int .i64 0, .int .i64 0, .int .i64 0, .int .i64 0, .int .i64 0, .int .i64 0, .int .i64 0, .int .i64 0, .int .i64 0, .int .i64 0, .int .i64 0, .int .i64 0, .int .i64 0, .int .i64 0, .int .i64 0, .int .i64 0, .int .i64 0, .int .i64 0] 69)).drew w.heap.size zero26 ∧ BoxAt ((w.alloc (.cells #[.int .i64 0, .int .i64 0, .int .i64 0, .int .i64 0, .int .i64 0, .int .i64 0, .int .i64 0, .int .i64 0, .int .i64 0, .int .i64 0, .int .i64 0, .int .i64 0, .int .i64 0, .int .i64 0, .int .i64 0, .int .i64 0, .int .i64 0, .int .i64 0, .int .i64 0, .int .i64 0, .int .i64 0, .int .i64 0, .int .i64 0, .int .i64 0, .int .i64 0, .int .i64 0] 69)).alloc (.cells #[.int .i64 0, .int .i64 0, .int .i64 0, .int .i64 0, .int .i64 0, .int .i64 0, .int .i64 0, .int .i64 0, .int .i64 0, .int .i64 0, .int .i64 0, .int .i64 0, .int .i64 0, .int .i64 0, .int .i64 0, .int .i64 0, .int .i64 0, .int .i64 0, .int .i64 0, .int .i64 0, .int .i64 0, .int .i64 0, .int .i64 0, .int .i64 0, .int .i64 0, .int .i64 0] 69)).drew (w.heap.size + 1) zero26 ∧ Below w.heap.size w ((w.alloc (.cells #[.int .i64 0, .int .i64 0, .int .i64 0, .int .i64 0, .int .i64 0, .int .i64 0, .int .i64 0, .int .i64 0, .int .i64 0, .int .i64 0, .int .i64 0, .int .i64 0, .int .i64 0, .int .i64 0, .int .i64 0, .int .i64 0, .int .i64 0, .int .i64 0, .int .i64 0, .int .i64 0, .int .i64 0, .int .i64 0, .int .i64 0, .int .i64 0, .int .i64 0, .int .i64 0] 69)).alloc (.cells #[.int .i64 0, .int .i64 0, .int .i64 0, .int .i64 0, .int .i64 0, .int .i64 0, .int .i64 0, .int .i64 0, .int .i64 0, .int .i64 0, .int .i64 0, .int .i64 0, .int .i64 0, .int .i64 0, .int .i64 0, .int .i64 0, .int .i64 0, .int .i64 0, .int .i64 0, .int .i64 0, .int .i64 0, .int .i64 0, .int .i64 0, .int .i64 0, .int .i64 0, .int .i64 0] 69)).drew :=
 ⟨(two_zero w).1, (two_zero w).2.1, (two_zero w).2.2.drew⟩
theorem labs_step {C : List UInt8} {l : List Fl} {k : Nat} {R : List Nat} (hk : k < 26) (h : labsF C l (26 - k) = some R) : ∃ m r, R = m :: r ∧ secF C l k 4 0 = some m ∧ labsF C l (26 - (k + 1)) = some r := by
 rw [show 26 - k = (26 - (k + 1)) + 1 by omega] at h
 unfold labsF at h
 rw [show 25 - (26 - (k + 1)) = k by omega] at h
 cases h1 : secF C l k 4 0 with
 | none => rw [h1] at h; cases h
 | some m =>
 cases h2 : labsF C l (26 - (k + 1)) with
 | none => rw [h1, h2] at h; cases h
 | some r =>
 rw [h1, h2] at h
 cases h
 exact ⟨m, r, rfl, rfl, rfl⟩
theorem sec_step {C : List UInt8} {l : List Fl} {k j m M : Nat} (hj : j < 4) (h : secF C l k (4 - j) m = some M) : ∃ ok sn, tellsF C l (2 ^ j) 27 k 0 = some (ok, sn) ∧ (ok = true → secF C l k (4 - (j + 1)) (m ||| 2 ^ j) = some M) ∧ (ok = false → secF C l k (4 - (j + 1)) m = some M) := by
 rw [show 4 - j = (4 - (j + 1)) + 1 by omega] at h
 unfold secF at h
 rw [show 3 - (4 - (j + 1)) = j by omega] at h
 cases h1 : tellsF C l (2 ^ j) 27 k 0 with
 | none => rw [h1] at h; cases h
 | some q =>
 obtain ⟨ok, sn⟩ := q
 rw [h1] at h
 refine ⟨ok, sn, rfl, fun e => ?_, fun e => ?_⟩
 ·subst e; exact h
 ·subst e; exact h
set_option maxRecDepth 100000 in
set_option maxHeartbeats 2000000 in
theorem labels_any (b : Nat) (l : List Fl) (R : List Nat) (C : List UInt8) (A : List Int) (w : World) (hb : BookAt w b C A) (hfl : flowsC C = some l) (hok : FlOk l) (ho : labsF C l 26 = some R) :
  Calls Tryz.prog 74 #[.pointer (some ⟨b, 0, none⟩)] w fun e w' => e = .returned (.agg (arrV R)) ∧ Below w.heap.size w w' := by
 unfold flowsC at hfl
 cases hbe : beginC C with
 | none => rw [hbe] at hfl; cases hfl
 | some B =>
 rw [hbe] at hfl
 have hll := flows_lt hfl
 have HB : Hid (BookAt w b C A) := hb
 have HBE : Hid (beginC C = some B) := hbe
 have HFL : Hid (flowsF C (C.length + 1) B C.length 0 = some l) := hfl
 have HO : Hid (labsF C l 26 = some R) := ho
 obtain ⟨hC, hA, ac, aa, bc, ba, capc, capa, h0, h1, hc, ha⟩ := hb
 have hB5 : B ≤ 500 := by have := begin_le hbe; omega
 clear hbe hfl ho hc ha
 go_enter Tryz.func74, Tryz.ntmps74
 go_upto_region 2 with fail
 go_cut [4] from 9 to 17 (fun v wx => BoxAt wx w.heap.size zero26 ∧ BoxAt wx (w.heap.size + 1) zero26 ∧ Below w.heap.size w wx ∧ ∃ base, wx.ownsRow base 214 3 v l.length (flCells l))
 case first =>
  have hbl : b < w.heap.size := block_lt_of_cell h0
  have hbl1 : b < w.heap.size + 1 := by omega
  go_region_with (first | (go_at_call 47; refine (begin_any b B C A _ (by exact HB.out.below (((Below.refl w.heap.size w).alloc (Nat.le_refl _) _).alloc (by simp) _).drew) HBE.out).mono ?_; rintro x1 w1 ⟨rfl, hw1⟩; subst hw1) | (go_at_call 107; refine (flows_any _ b B C.length 0 l C A _ (by exact HB.out.below (((Below.refl w.heap.size w).alloc (Nat.le_refl _) _).alloc (by simp) _).drew) (by decide) HFL.out hB5 (by omega)).mono ?_; rintro x1 w1 ⟨v, rfl, hown, hb1⟩))
  all_goals (go_wp2_with fail; go_meet)
  all_goals
   have hz3 := two_zeroD w
   have hbb := hz3.2.2.trans (hb1.mono hz3.2.2.size)
   exact ⟨hz3.1.keep hb1 hz3.1.lt, hz3.2.1.keep hb1 hz3.2.1.lt, hbb, _, hown⟩
 case rest =>
  obtain ⟨hz0, hz1, hbl, base, hown⟩ := hcut
  obtain ⟨ao, gg, cap, hv, _⟩ := fl_form hown
  subst hv
  clear h0 h1
  go_wp2_with fail
  go_loopw [5] (fun x w' => ∃ (k : Nat) (D r : List Nat), x = .int .i64 k ∧ k ≤ 26 ∧ D.length = k ∧ BoxAt w' w.heap.size zero26 ∧ BoxAt w' (w.heap.size + 1) (D ++ List.replicate (26 - k) 0) ∧ Below w.heap.size w w' ∧ w'.ownsRow base 214 3 (.slice ao l.length cap) l.length (flCells l) ∧ Hid (labsF C l (26 - k) = some r) ∧ Hid (D ++ r = R)) (fun x w' => 26 - (intOf x).toNat)
  case atStart => exact ⟨0, [], R, rfl, by omega, rfl, hz0, hz1, hbl, hown, HO, rfl⟩
  case round =>
   obtain ⟨k, D, r, rfl, hk, hD, hz0, hz1, hbl, hown, HL, HR⟩ := hrel
   by_cases hlt : k < 26
   ·obtain ⟨m0, r', hr, hsec, hlab⟩ := labs_step hlt HL.out
    have HLAB : Hid _ := hlab
    have HRR : Hid (D ++ m0 :: r' = R) := by have := HR.out; rw [hr] at this; exact this
    have HSEC : Hid _ := hsec
    clear hr hsec hlab
    have t26 : decide ((k : Int) < 26) = true := by simp; omega
    go_wp2_with fail
    go_loopw [6] (fun x w' => ∃ (j m p : Nat), x = .int .i64 p ∧ j ≤ 4 ∧ m < 16 ∧ Hid (p = 2 ^ j) ∧ BoxAt w' w.heap.size zero26 ∧ BoxAt w' (w.heap.size + 1) (D ++ m :: List.replicate (26 - (k + 1)) 0) ∧ Below w.heap.size w w' ∧ w'.ownsRow base 214 3 (.slice ao l.length cap) l.length (flCells l) ∧ Hid (secF C l k (4 - j) m = some m0)) (fun x w' => 16 - (intOf x).toNat)
    case atStart => exact ⟨0, 0, 1, rfl, by omega, by omega, rfl, hz0, by rw [show 26 - k = (26 - (k + 1)) + 1 by omega, List.replicate_succ] at hz1; exact hz1, hbl, hown, HSEC⟩
    case round =>
     obtain ⟨j, m, p, rfl, hj, hm, HP, hz0, hz1, hbl, hown, HS⟩ := hrel
     have hp1 : 1 ≤ p := by rw [HP.out]; exact Nat.one_le_two_pow
     by_cases hjl : j < 4
     ·obtain ⟨ok, sn, htl, hyes, hno⟩ := sec_step hjl HS.out
      have hp2 : p < 16 := by have h9 : 2 ^ j < 2 ^ 4 := Nat.pow_lt_pow_right (by omega) hjl; rw [HP.out]; omega
      rw [← HP.out] at htl hyes
      have hp4 : 2 * p = 2 ^ (j + 1) := by rw [HP.out, Nat.pow_succ]; omega
      have HP2 : Hid (2 * p = 2 ^ (j + 1)) := hp4
      have HT : Hid _ := htl
      have HBK : Hid (BookAt wr b C A) := HB.out.below hbl
      have hcell := hz1.cell k (by simp; omega)
      have hgd : (D ++ m :: List.replicate (26 - (k + 1)) 0).getD k 0 = m := by rw [← hD]; simp
      rw [hgd] at hcell
      have hfz := hz1.frozen k
      clear htl hgd hp4
      cases ok
      ·have HN : Hid _ := hno rfl
       clear hyes hno
       go_wp2_with (go_at_call 108; refine (tells_any 27 b k p 0 base _ l _ C A _ HBK.out hown hll hok (by omega) hp2 (by decide) HT.out).mono ?_; rintro x1 w' ⟨rfl, rfl, _⟩)
       go_roundw
       case rel => first | exact ⟨j + 1, m, 2 * p, by go_num, by omega, hm, HP2, hz0, hz1, hbl, hown, HN⟩ | ((repeat apply Exists.intro); refine ⟨?_, rfl⟩; exact ⟨j + 1, m, 2 * p, by go_num, by omega, hm, HP2, hz0, hz1, hbl, hown, HN⟩)
       case measure => simp [intOf]; omega
      ·have HN : Hid _ := hyes rfl
       have hor := i64_or_nat m p (by omega) (by omega)
       have hm2 := or_lt16 hm hp2
       clear hyes hno
       go_wp2_with (go_at_call 108; refine (tells_any 27 b k p 0 base _ l _ C A _ HBK.out hown hll hok (by omega) hp2 (by decide) HT.out).mono ?_; rintro x1 w' ⟨rfl, rfl, _⟩)
       go_roundw
       case rel =>
        have hset := hz1.set k (m ||| p)
        rw [show (D ++ m :: List.replicate (26 - (k + 1)) 0).set k (m ||| p) = D ++ (m ||| p) :: List.replicate (26 - (k + 1)) 0 by rw [← hD]; simp] at hset
        have hbs := (Below.refl (w.heap.size + 1) w').setCell (p := ⟨w.heap.size + 1, k, none⟩) (Nat.le_refl _) (.int .i64 ((m ||| p : Nat) : Int))
        exact ⟨j + 1, m ||| p, 2 * p, by go_num, by omega, hm2, HP2, hz0.keep hbs (by omega), hset, hbl.trans (hbs.mono (by omega)), ownsRow_setCell_other hown (by intro e; obtain ⟨c, fz, q⟩ := Lib.ownsRow_kind hown _ e; unfold BoxAt at hz1; simp only at q; rw [q] at hz1; cases hz1) _, HN⟩
       case measure => simp [intOf]; omega
     ·have hp16 : p = 16 := by rw [HP.out, show j = 4 by omega]
      have hj4 : j = 4 := by omega
      have hmm : m = m0 := by have := HS.out; rw [hj4] at this; simpa [secF] using this
      have HM : Hid (m = m0) := hmm
      clear hmm
      have hp17 : ¬ p < 16 := by omega
      clear hp16
      go_wp2_with fail
      go_roundw
      case rel => exact ⟨k + 1, D ++ [m], r', by go_num, by omega, by simp [hD], hz0, by simpa using hz1, hbl, hown, HLAB, by show _ = _; rw [HM.out]; have := HRR.out; simpa using this⟩
      case measure => simp [intOf]; omega
   ·have hr : r = [] := by have := HL.out; rw [show 26 - k = 0 by omega] at this; simpa [labsF] using this.symm
    have hDR : D = R := by have := HR.out; rw [hr] at this; simpa using this
    have hk26 : 26 - k = 0 := by omega
    rw [hk26] at hz1
    simp only [List.replicate_zero, List.append_nil] at hz1
    have hRl : R.length = 26 := by rw [← hDR]; omega
    rw [hDR] at hz1
    have hsz : (arrV R).size = 26 := by simp [arrV, hRl]
    have hsz0 : (arrV zero26).size = 26 := by rfl
    have HZ0 : Hid (BoxAt wr w.heap.size zero26) := hz0
    have HZ1 : Hid (BoxAt wr (w.heap.size + 1) R) := hz1
    clear hz0 hz1 hDR hr
    go_wp2_with (first | (refine wpList_load_row rfl 69 (.tmp 3) rfl (w.heap.size + 1) rfl 69 (arrV R) (0, 0) _ HZ1.out Tryz.underlying69 rfl (by rw [infoArr, hsz]) ?_) | (refine wpList_store_row rfl 69 (.tmp 2) (.tmp 42) rfl w.heap.size (arrV R) rfl rfl 69 (arrV zero26) HZ0.out (by rw [infoArr, hsz]) (by rw [hsz, hsz0]) (arr_one R) ?_))
    have hfin := HZ0.out.setRow R
    exact bodyPost_ret (v := .agg (arrV R)) (results_cell_row rfl _ _ w.heap.size 69 (arrV R) (0, 0) _ rfl hfin Tryz.underlying69 rfl (by rw [infoArr, hsz])) rfl ⟨rfl, below_setRow hbl (Nat.le_refl _)⟩
end Go.Proofs.YtdgmoiflahoihaaGreatDoor
