import Derived.Test.YtdgmoiflahoihaaEVA

namespace Go.Proofs.Ytdgmoiflahoihaa
open Go.RowKit
set_option linter.unusedSimpArgs false
set_option linter.unusedVariables false
set_option maxHeartbeats 400000 in
theorem below_any (a n : Int) (w : World) :
  Calls Try.prog 34 #[.int .i64 a, .int .i64 n] w fun e w' => e = .returned (.bool (belowI a n)) ∧ w' = w := by
 go_enter Try.func34, Try.ntmps34
 go_wp2
 all_goals go_ret
 all_goals (refine ⟨?_, rfl⟩; simp [belowI, bel, *]; try omega)
def boundsV (o n : Int) : Value := .tuple #[.int .i64 (boundsI o n).1, .int .i64 (boundsI o n).2.1, .int .i64 (boundsI o n).2.2]
set_option maxHeartbeats 2000000 in
theorem bounds_in (o n : Int) (w : World) (ho : o = 0 ∨ o = 1 ∨ o = 2 ∨ o = 3 ∨ o = 11 ∨ o = 12 ∨ o = 13 ∨ o = 14 ∨ o = 15) : Calls Try.prog 33 #[.int .i64 o, .int .i64 n] w fun e w' => e = .returned (boundsV o n) ∧ w' = w := by
 rcases ho with rfl | rfl | rfl | rfl | rfl | rfl | rfl | rfl | rfl
 all_goals (
  go_enter Try.func33, Try.ntmps33
  go_wp2
  exact bodyPost_ret (v := boundsV _ n) (by simp [results, Try.results33, go_sem, boundsV, boundsI]) rfl ⟨rfl, rfl⟩)
set_option maxHeartbeats 1000000 in
theorem bounds_no (o n : Int) (w : World) (ho : ¬ (o = 0 ∨ o = 1 ∨ o = 2 ∨ o = 3 ∨ o = 11 ∨ o = 12 ∨ o = 13 ∨ o = 14 ∨ o = 15)) : Calls Try.prog 33 #[.int .i64 o, .int .i64 n] w fun e w' => e = .returned (boundsV o n) ∧ w' = w := by
 have hb : boundsV o n = .tuple #[.int .i64 100, .int .i64 100, .int .i64 100] := by
  unfold boundsV boundsI
  rw [if_neg (by omega), if_neg (by omega), if_neg (by omega), if_neg (by omega), if_neg (by omega), if_neg (by omega), if_neg (by omega)]
 have e0 : (o == 0) = false := by simp; omega
 have e1 : (o == 1) = false := by simp; omega
 have e2 : (o == 2) = false := by simp; omega
 have e3 : (o == 3) = false := by simp; omega
 have e11 : (o == 11) = false := by simp; omega
 have e12 : (o == 12) = false := by simp; omega
 have e13 : (o == 13) = false := by simp; omega
 have e14 : (o == 14) = false := by simp; omega
 have e15 : (o == 15) = false := by simp; omega
 go_enter Try.func33, Try.ntmps33
 go_wp2
 rw [hb]
 exact bodyPost_ret (v := .tuple #[.int .i64 100, .int .i64 100, .int .i64 100]) (by simp [results, Try.results33, go_sem]) rfl ⟨rfl, rfl⟩
theorem bounds_any (o n : Int) (w : World) : Calls Try.prog 33 #[.int .i64 o, .int .i64 n] w fun e w' => e = .returned (boundsV o n) ∧ w' = w := by
 by_cases h : o = 0 ∨ o = 1 ∨ o = 2 ∨ o = 3 ∨ o = 11 ∨ o = 12 ∨ o = 13 ∨ o = 14 ∨ o = 15
 ·exact bounds_in o n w h
 ·exact bounds_no o n w h
end Go.Proofs.Ytdgmoiflahoihaa
namespace Go.Proofs.Ytdgmoiflahoihaa
open Go.RowKit
set_option linter.unusedSimpArgs false
set_option linter.unusedVariables false
set_option maxHeartbeats 1000000 in
theorem valid_long (l : List Ic) (ao : Option Addr) (cap : Nat) (w : World) (h : 2000 < l.length) :
  Calls Try.prog 15 #[.slice ao l.length cap] w fun e w' => e = .returned (.tuple #[.int .i64 (validI l).1, .int .i64 (validI l).2]) ∧ Below w.heap.size w w' := by
 have hv : validI l = (4, 0) := by unfold validI; rw [if_pos h]
 have t1 : decide ((2000 : Int) < (l.length : Int)) = true := by simp; omega
 rw [hv]
 go_enter Try.func15, Try.ntmps15
 go_wp2_with fail
 go_ret2
 exact ⟨rfl, Below.refl _ _⟩
set_option maxHeartbeats 1000000 in
theorem valid_none (l : List Ic) (ao : Option Addr) (cap : Nat) (w : World) (h : l.length = 0) :
  Calls Try.prog 15 #[.slice ao l.length cap] w fun e w' => e = .returned (.tuple #[.int .i64 (validI l).1, .int .i64 (validI l).2]) ∧ Below w.heap.size w w' := by
 have hv : validI l = (7, 0) := by unfold validI; rw [if_neg (by omega), if_pos h]
 rw [hv, h]
 go_enter Try.func15, Try.ntmps15
 go_wp2_with fail
 go_loopw [4] (fun x w' => x = .int .i64 0 ∧ w' = w) (fun _ _ => 0)
 case atStart => exact ⟨rfl, rfl⟩
 case round =>
  obtain ⟨rfl, rfl⟩ := hrel
  go_wp2_with fail
  go_ret2
  exact ⟨rfl, Below.refl _ _⟩
set_option maxRecDepth 100000 in
set_option maxHeartbeats 4000000 in
theorem valid_some (l : List Ic) (g o : Nat) (cap : Nat) (w : World) (m : Nat) (hm : l.length = m + 1) (hl : m < 2000) (hc : InsCells w (some ⟨g, o, none⟩) g o l) :
  Calls Try.prog 15 #[.slice (some ⟨g, o, none⟩) (m + 1) cap] w fun e w' => e = .returned (.tuple #[.int .i64 (validI l).1, .int .i64 (validI l).2]) ∧ Below w.heap.size w w' := by
 have hv : validI l = vloop l.length (l.drop 0) 0 := by unfold validI; rw [if_neg (by omega), if_neg (by omega)]; rfl
 have t1 : decide ((2000 : Int) < (m : Int) + 1) = false := by simp; omega
 have t2 : ((m : Int) + 1 == 0) = false := by rw [beq_eq_false_iff_ne]; omega
 generalize hy : validI l = y at *
 have HY : Hid (vloop l.length (l.drop 0) 0 = y) := hv.symm
 have HC : Hid (InsCells w (some ⟨g, o, none⟩) g o l) := hc
 clear hy hv hc
 go_enter Try.func15, Try.ntmps15
 go_wp2_with fail
 go_loopw [4] (fun x w' => ∃ k : Nat, x = .int .i64 k ∧ k ≤ m + 1 ∧ Hid (Below w.heap.size w w') ∧ Hid (vloop l.length (l.drop k) k = y)) (fun x _ => m + 1 - (intOf x).toNat)
 case atStart => exact ⟨0, rfl, by omega, Below.refl _ _, HY⟩
 case round =>
  obtain ⟨k, rfl, hk, HB, HV⟩ := hrel
  have hsz : w.heap.size ≤ wr.heap.size := HB.out.size
  by_cases hlt : k < m + 1
  ·have tk : decide ((k : Int) < (m : Int) + 1) = true := by simp; omega
   have hkl : k < l.length := by omega
   obtain ⟨_, hg, c0, c1, c2, c3⟩ := HC.out k hkl
   rw [← HB.out.cell (p := ⟨g, o + k * 4, none⟩) hg] at c0
   rw [← HB.out.cell (p := ⟨g, o + k * 4 + 1, none⟩) hg] at c1
   rw [← HB.out.cell (p := ⟨g, o + k * 4 + 2, none⟩) hg] at c2
   rw [← HB.out.cell (p := ⟨g, o + k * 4 + 3, none⟩) hg] at c3
   have hln : (l.length : Int) = (m : Int) + 1 := by omega
   have hfb := fits_bounds l[k] l.length (by omega)
   rw [hln] at hfb
   -- what follows from each outcome
   have HBad : Hid (fitsI l[k] ((m : Int) + 1) = false → (7, (k : Int)) = y) := fun hfit => (vloop_bad hkl (by rw [hln]; exact hfit)).symm.trans HV.out
   have HEnd : Hid (k = m → endsI l[k] = false → (7, (k : Int)) = y) := fun hkm he => (vloop_end (by omega) he).symm.trans HV.out
   have HGo : Hid (fitsI l[k] ((m : Int) + 1) = true → (k < m ∨ endsI l[k] = true) → vloop l.length (l.drop (k + 1)) (k + 1) = y) := fun hfit h2 => (vloop_step hkl (by rw [hln]; exact hfit) (h2.imp (fun h => by omega) id)).symm.trans HV.out
   generalize l[k] = p at *
   obtain ⟨po, pa, pb, pc⟩ := p
   simp only at c0 c1 c2 c3 hfb
   unfold endsI at HEnd HGo
   simp only at HEnd HGo
   clear HV HC hkl hln
   have hbn : (boundsV po ((m : Int) + 1)) = .tuple #[.int .i64 (boundsI po ((m : Int) + 1)).1, .int .i64 (boundsI po ((m : Int) + 1)).2.1, .int .i64 (boundsI po ((m : Int) + 1)).2.2] := rfl
   generalize (boundsI po ((m : Int) + 1)) = bn at *
   obtain ⟨b1, b2, b3⟩ := bn
   simp only at hfb hbn
   have HB2 : Hid (∀ ob, Below w.heap.size w (wr.alloc ob)) := fun ob => HB.out.alloc (by omega) _
   have last : ((k : Int) + 1 == (m : Int) + 1) = false ∧ ((k : Int) == (m : Int)) = false ∧ Hid (k < m) ∨ ((k : Int) + 1 == (m : Int) + 1) = true ∧ ((k : Int) == (m : Int)) = true ∧ Hid (k = m) ∧ (po != 0) = false ∨ ((k : Int) + 1 == (m : Int) + 1) = true ∧ ((k : Int) == (m : Int)) = true ∧ Hid (k = m) ∧ (po != 0) = true ∧ (po != 12) = false ∨ ((k : Int) + 1 == (m : Int) + 1) = true ∧ ((k : Int) == (m : Int)) = true ∧ Hid (k = m) ∧ (po != 0) = true ∧ (po != 12) = true := by
    unfold Hid
    simp only [beq_eq_false_iff_ne, beq_iff_eq, ne_eq, bne_iff_ne, bne_eq_false_iff_eq]
    omega
   have oks : decide (0 ≤ po) = false ∨ decide (0 ≤ po) = true ∧ decide (po ≤ 15) = false ∨ decide (0 ≤ po) = true ∧ decide (po ≤ 15) = true ∧ belowI pa b1 = false ∨ decide (0 ≤ po) = true ∧ decide (po ≤ 15) = true ∧ belowI pa b1 = true ∧ belowI pb b2 = false ∨ decide (0 ≤ po) = true ∧ decide (po ≤ 15) = true ∧ belowI pa b1 = true ∧ belowI pb b2 = true ∧ belowI pc b3 = false ∨ decide (0 ≤ po) = true ∧ decide (po ≤ 15) = true ∧ belowI pa b1 = true ∧ belowI pb b2 = true ∧ belowI pc b3 = true := by
    cases decide (0 ≤ po) <;> cases decide (po ≤ 15) <;> cases belowI pa b1 <;> cases belowI pb b2 <;> cases belowI pc b3 <;> simp
   rcases oks with e1 | ⟨e1, e2⟩ | ⟨e1, e2, e3⟩ | ⟨e1, e2, e3, e4⟩ | ⟨e1, e2, e3, e4, e5⟩ | ⟨e1, e2, e3, e4, e5⟩
   ·rw [e1] at hfb
    simp only [Bool.false_and, Bool.true_and] at hfb
    have HFB : Hid _ := HBad.out hfb
    clear hfb HGo HEnd HBad
    rcases last with ⟨l1, l2, l3⟩ | ⟨l1, l2, l3, l4⟩ | ⟨l1, l2, l3, l4, l5⟩ | ⟨l1, l2, l3, l4, l5⟩
    all_goals (
     go_wp2_with (first | (go_at_call 33; refine (bounds_any _ _ _).mono ?_; rintro e w1 ⟨rfl, rfl⟩) | (go_at_call 34; refine (below_any _ _ _).mono ?_; rintro e w1 ⟨rfl, rfl⟩))
     rw [← HFB.out]
     go_ret2
     exact ⟨rfl, HB2.out _⟩)
   ·rw [e1, e2] at hfb
    simp only [Bool.false_and, Bool.true_and] at hfb
    have HFB : Hid _ := HBad.out hfb
    clear hfb HGo HEnd HBad
    rcases last with ⟨l1, l2, l3⟩ | ⟨l1, l2, l3, l4⟩ | ⟨l1, l2, l3, l4, l5⟩ | ⟨l1, l2, l3, l4, l5⟩
    all_goals (
     go_wp2_with (first | (go_at_call 33; refine (bounds_any _ _ _).mono ?_; rintro e w1 ⟨rfl, rfl⟩) | (go_at_call 34; refine (below_any _ _ _).mono ?_; rintro e w1 ⟨rfl, rfl⟩))
     rw [← HFB.out]
     go_ret2
     exact ⟨rfl, HB2.out _⟩)
   ·rw [e1, e2, e3] at hfb
    simp only [Bool.false_and, Bool.true_and] at hfb
    have HFB : Hid _ := HBad.out hfb
    clear hfb HGo HEnd HBad
    rcases last with ⟨l1, l2, l3⟩ | ⟨l1, l2, l3, l4⟩ | ⟨l1, l2, l3, l4, l5⟩ | ⟨l1, l2, l3, l4, l5⟩
    all_goals (
     go_wp2_with (first | (go_at_call 33; refine (bounds_any _ _ _).mono ?_; rintro e w1 ⟨rfl, rfl⟩) | (go_at_call 34; refine (below_any _ _ _).mono ?_; rintro e w1 ⟨rfl, rfl⟩))
     rw [← HFB.out]
     go_ret2
     exact ⟨rfl, HB2.out _⟩)
   ·rw [e1, e2, e3, e4] at hfb
    simp only [Bool.false_and, Bool.true_and] at hfb
    have HFB : Hid _ := HBad.out hfb
    clear hfb HGo HEnd HBad
    rcases last with ⟨l1, l2, l3⟩ | ⟨l1, l2, l3, l4⟩ | ⟨l1, l2, l3, l4, l5⟩ | ⟨l1, l2, l3, l4, l5⟩
    all_goals (
     go_wp2_with (first | (go_at_call 33; refine (bounds_any _ _ _).mono ?_; rintro e w1 ⟨rfl, rfl⟩) | (go_at_call 34; refine (below_any _ _ _).mono ?_; rintro e w1 ⟨rfl, rfl⟩))
     rw [← HFB.out]
     go_ret2
     exact ⟨rfl, HB2.out _⟩)
   ·rw [e1, e2, e3, e4, e5] at hfb
    simp only [Bool.false_and, Bool.true_and] at hfb
    have HFB : Hid _ := HBad.out hfb
    clear hfb HGo HEnd HBad
    rcases last with ⟨l1, l2, l3⟩ | ⟨l1, l2, l3, l4⟩ | ⟨l1, l2, l3, l4, l5⟩ | ⟨l1, l2, l3, l4, l5⟩
    all_goals (
     go_wp2_with (first | (go_at_call 33; refine (bounds_any _ _ _).mono ?_; rintro e w1 ⟨rfl, rfl⟩) | (go_at_call 34; refine (below_any _ _ _).mono ?_; rintro e w1 ⟨rfl, rfl⟩))
     rw [← HFB.out]
     go_ret2
     exact ⟨rfl, HB2.out _⟩)
   ·rw [e1, e2, e3, e4, e5] at hfb
    simp only [Bool.true_and] at hfb
    rcases last with ⟨l1, l2, l3⟩ | ⟨l1, l2, l3, l4⟩ | ⟨l1, l2, l3, l4, l5⟩ | ⟨l1, l2, l3, l4, l5⟩
    ·have HG : Hid _ := HGo.out hfb (.inl l3.out)
     clear hfb HGo HEnd HBad
     go_wp2_with (first | (go_at_call 33; refine (bounds_any _ _ _).mono ?_; rintro e w1 ⟨rfl, rfl⟩) | (go_at_call 34; refine (below_any _ _ _).mono ?_; rintro e w1 ⟨rfl, rfl⟩))
     go_roundw
     case rel => exact ⟨k + 1, by go_num, by omega, HB2.out _, HG⟩
     case measure => simp [intOf]; omega
    ·have HG : Hid _ := HGo.out hfb (.inr (by simp at l4; simp [l4]))
     clear hfb HGo HEnd HBad
     go_wp2_with (first | (go_at_call 33; refine (bounds_any _ _ _).mono ?_; rintro e w1 ⟨rfl, rfl⟩) | (go_at_call 34; refine (below_any _ _ _).mono ?_; rintro e w1 ⟨rfl, rfl⟩))
     go_roundw
     case rel => exact ⟨k + 1, by go_num, by omega, HB2.out _, HG⟩
     case measure => simp [intOf]; omega
    ·have HG : Hid _ := HGo.out hfb (.inr (by simp at l5; simp [l5]))
     clear hfb HGo HEnd HBad
     go_wp2_with (first | (go_at_call 33; refine (bounds_any _ _ _).mono ?_; rintro e w1 ⟨rfl, rfl⟩) | (go_at_call 34; refine (below_any _ _ _).mono ?_; rintro e w1 ⟨rfl, rfl⟩))
     go_roundw
     case rel => exact ⟨k + 1, by go_num, by omega, HB2.out _, HG⟩
     case measure => simp [intOf]; omega
    ·have HFB : Hid _ := HEnd.out l3.out (by simp at l4 l5; simp [l4, l5])
     clear hfb HGo HEnd HBad
     go_wp2_with (first | (go_at_call 33; refine (bounds_any _ _ _).mono ?_; rintro e w1 ⟨rfl, rfl⟩) | (go_at_call 34; refine (below_any _ _ _).mono ?_; rintro e w1 ⟨rfl, rfl⟩))
     rw [← HFB.out]
     go_ret2
     exact ⟨rfl, HB2.out _⟩
  ·have tk : decide ((k : Int) < (m : Int) + 1) = false := by simp; omega
   have HE : Hid ((0, 0) = y) := by
    have := HV.out
    rw [List.drop_eq_nil_of_le (by omega)] at this
    exact this
   go_wp2_with fail
   rw [← HE.out]
   go_ret2
   exact ⟨rfl, HB.out⟩
theorem refValid_any (l : List Ic) (ao : Option Addr) (g o cap : Nat) (w : World) (hc : InsCells w ao g o l) :
  Calls Try.prog 15 #[.slice ao l.length cap] w fun e w' => e = .returned (.tuple #[.int .i64 (validI l).1, .int .i64 (validI l).2]) ∧ Below w.heap.size w w' := by
 by_cases h : 2000 < l.length
 ·exact valid_long l ao cap w h
 by_cases h0 : l.length = 0
 ·exact valid_none l ao cap w h0
 ·obtain ⟨rfl, _⟩ := hc 0 (by omega)
  have := valid_some l g o cap w (l.length - 1) (by omega) (by omega) hc
  rwa [show l.length - 1 + 1 = l.length by omega] at this
end Go.Proofs.Ytdgmoiflahoihaa
