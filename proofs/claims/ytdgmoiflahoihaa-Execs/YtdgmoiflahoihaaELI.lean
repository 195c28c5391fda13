import Derived.Test.YtdgmoiflahoihaaELC
import Derived.Test.YtdgmoiflahoihaaEXN
import Derived.Test.YtdgmoiflahoihaaELNt
import Derived.Test.YtdgmoiflahoihaaEXT

namespace Go.Proofs.Ytdgmoiflahoihaa
open Go.RowKit
open Go.WideShapes (add_plain)
set_option linter.unusedSimpArgs false
set_option linter.unusedVariables false
theorem make_ints (n : Nat) (hn : 8 * (n + 2) ≤ 281474976710656) : ∃ Z : List Value, Z.length = n + 2 ∧ ∀ w : World, (Instr.makeSlice 34 (.int .i64 ((n : Int) + 2)) (.int .i64 ((n : Int) + 2))).run Try.prog w = .ok (.slice (some ⟨w.heap.size, 0, none⟩) (n + 2) (n + 2)) (w.alloc (.cells Z.toArray 3)) := by
 obtain ⟨i, hi, hz, hs, hb⟩ := parts_of_info2 infoInt3
 refine ⟨(madeCells #[.int .i64 0] (n + 2)).toList, by simp [size_madeCells], fun w => ?_⟩
 have k := run_make (P := Try.prog) w 34 3 i _ Try.underlying34 hi hz .i64 .i64 ((n : Int) + 2) ((n : Int) + 2) (by omega) (by omega) (by rw [hb]; omega) (by omega)
 rw [hs, show ((n : Int) + 2).toNat = n + 2 by omega, Nat.mul_one] at k
 rw [k]
 rfl
@[reducible] def mark2 : List Value := [.int .i64 77, .int .i64 77]
theorem mark2_list (cs : List Value) (n : Nat) (h : cs.length = n) (a b : Value) : ((cs ++ [a, b]).set n (.int .i64 77)).set (n + 1) (.int .i64 77) = cs ++ mark2 := by
 rw [← h]
 have k := set_mid cs [a, b] 0 (.int .i64 77)
 rw [Nat.add_zero] at k
 rw [k, set_mid]
 rfl
theorem list2 (z : List Value) (h : z.length = 2) : ∃ a b, z = [a, b] := by
 match z, h with
 | [a, b], _ => exact ⟨a, b, rfl⟩
set_option maxRecDepth 100000 in
set_option maxHeartbeats 2000000 in
theorem fieldsOf_any (l : List Int) (ao : Option Addr) (g o cap : Nat) (w : World) (hc : NumCells w ao g o l) (hn : 8 * (l.length + 2) ≤ 281474976710656) :
  Calls Try.prog 36 #[.slice ao l.length cap] w fun e w' => e = .returned (.slice (some ⟨w.heap.size, 0, none⟩) l.length (l.length + 2)) ∧ w'.heap[w.heap.size]? = some (.cells (numRow l ++ mark2).toArray 3 (0, 0)) ∧ Below w.heap.size w w' := by
 obtain ⟨Z, hZ, hmk⟩ := make_ints l.length hn
 have hcs := numRow_length l
 have HC : Hid (0 < l.length → ∃ ad, ao = some ad ∧ ∀ j v, (numRow l)[j]? = some v → (w.alloc (.cells Z.toArray 3)).cell? (ad.add j) = some v) := by
  intro h0
  obtain ⟨e0, _⟩ := hc 0 h0
  refine ⟨_, e0, fun j v hj => ?_⟩
  have hb : Below w.heap.size w (w.alloc (.cells Z.toArray 3)) := (Below.refl _ _).alloc (Nat.le_refl _) _
  have hjl : j < l.length := by rw [← hcs]; exact (List.getElem?_eq_some_iff.mp hj).1
  obtain ⟨_, hg, c0⟩ := hc j hjl
  rw [add_plain, hb.cell (p := ⟨g, o + j, none⟩) hg, c0, ← hj]
  simp [numRow, List.getElem?_eq_getElem hjl]
 have HO : Hid _ := numRow_one l
 have HN : Hid (l.length = 0 → numRow l = []) := fun h => List.eq_nil_of_length_eq_zero (by omega)
 generalize numRow l = cs at *
 generalize hL : l.length = n at *
 clear hL hc
 have HH : Hid ((w.alloc (.cells Z.toArray 3)).heap[w.heap.size]? = some (.cells Z.toArray 3 (0, 0))) := heap_alloc_new w _
 have HB : Hid (Below w.heap.size w (w.alloc (.cells Z.toArray 3))) := (Below.refl _ _).alloc (Nat.le_refl _) _
 go_enter Try.func36, Try.ntmps36
 go_upto_region 3 with fail
 generalize (w.alloc (.cells Z.toArray 3)) = W at *
 obtain ⟨W2, hcp, hG2, hB2⟩ := copy_gives (P := Try.prog) W 34 34 3 3 1 Try.underlying34 infoInt1 ao w.heap.size (n + 2) (n + 2) n cap Z 3 HH.out cs (by omega) (by omega) HN.out HC.out (by omega) HO.out w.heap.size w HB.out (Nat.le_refl _)
 go_upto_region 4 with fail
 obtain ⟨a, b, hz⟩ := list2 (Z.drop cs.length) (by simp; omega)
 rw [hz] at hG2
 have q : ∀ j v, ([a, b] : List Value)[j]? = some v → W2.cell? ⟨w.heap.size, n + j, none⟩ = some v := by
  intro j v hj
  rw [cell_of_row _ _ _ _ _ _ hG2, ← hcs]
  simp [List.getElem?_append_right, hj]
 have fz : ∀ o, W2.frozen? ⟨w.heap.size, o, none⟩ = false := by intro o; simp [World.frozen?, hG2]
 have q0 := q 0 a rfl
 have q1 := q 1 b rfl
 rw [Nat.add_zero] at q0
 have HG : Hid (W2.heap[w.heap.size]? = some (.cells (cs ++ [a, b]).toArray 3 (0, 0))) := hG2
 have HB2 : Hid (Below w.heap.size w W2) := hB2
 clear q hcp hG2 hB2 hz hmk HC HH HB
 go_wp2_with fail
 go_ret
 refine ⟨rfl, ?_, ?_⟩
 ·have k := row_set (row_set HG.out n (.int .i64 77)) (n + 1) (.int .i64 77)
  rw [mark2_list cs n hcs] at k
  exact k
 ·exact (HB2.out.setCell (by simp) _).setCell (by simp) _
set_option maxRecDepth 100000 in
set_option maxHeartbeats 2000000 in
theorem sameInts_any (l : List Int) (ao bo : Option Addr) (g o cap g2 o2 cap2 : Nat) (w : World) (hc : NumCells w ao g o l) (hd : NumCells w bo g2 o2 l) (hn : 8 * (l.length + 2) ≤ 281474976710656) :
  Calls Try.prog 66 #[.slice ao l.length cap, .slice bo l.length cap2] w fun e w' => e = .returned (.bool true) ∧ Below w.heap.size w w' := by
 have HC : Hid (∀ w', Below w.heap.size w w' → NumCells w' ao g o l) := fun w' hb i hi => by
  obtain ⟨a, b, c⟩ := hc i hi
  exact ⟨a, Nat.lt_of_lt_of_le b hb.size, (hb.cell (p := ⟨g, _, none⟩) b).trans c⟩
 have HD : Hid (∀ w', Below w.heap.size w w' → NumCells w' bo g2 o2 l) := fun w' hb i hi => by
  obtain ⟨a, b, c⟩ := hd i hi
  exact ⟨a, Nat.lt_of_lt_of_le b hb.size, (hb.cell (p := ⟨g2, _, none⟩) b).trans c⟩
 clear hc hd
 have t0 : ((l.length : Int) != (l.length : Int)) = false := by simp
 go_enter Try.func66, Try.ntmps66
 go_wp2_with fail
 go_loopw [5] (fun x w' => ∃ k : Nat, x = .int .i64 k ∧ k ≤ l.length ∧ Hid (Below w.heap.size w w')) (fun x _ => l.length - (intOf x).toNat)
 case atStart => exact ⟨0, rfl, by omega, Below.refl _ _⟩
 case round =>
  obtain ⟨k, rfl, hk, HB⟩ := hrel
  by_cases hlt : k < l.length
  ·have tk : decide ((k : Int) < (l.length : Int)) = true := by simp; omega
   obtain ⟨ea, hg, c0⟩ := HC.out _ HB.out k hlt
   obtain ⟨eb, hg2, d0⟩ := HD.out _ HB.out k hlt
   clear HC HD
   subst ea eb
   generalize l[k] = p at *
   go_upto_region 6 with fail
   go_region
   all_goals go_wp2_with fail
   all_goals go_roundw
   case rel => exact ⟨k + 1, by go_num, by omega, HB.out.drew⟩
   case measure => simp [intOf]; omega
  ·have tk : decide ((k : Int) < (l.length : Int)) = false := by simp; omega
   go_wp2_with fail
   go_ret
   exact ⟨rfl, HB.out⟩
set_option maxRecDepth 100000 in
set_option maxHeartbeats 2000000 in
theorem stillInts_any (l : List Int) (g2 : Nat) (ao : Option Addr) (g o cap : Nat) (w : World) (hd : w.heap[g2]? = some (.cells (numRow l ++ mark2).toArray 3 (0, 0))) (hc : NumCells w ao g o l) (hn : 8 * (l.length + 2) ≤ 281474976710656) :
  Calls Try.prog 39 #[.slice (some ⟨g2, 0, none⟩) l.length (l.length + 2), .slice ao l.length cap] w fun e w' => e = .returned (.bool true) ∧ Below w.heap.size w w' := by
 have HS : Hid (Calls Try.prog 66 #[.slice (some ⟨g2, 0, none⟩) l.length (l.length + 2), .slice ao l.length cap] w fun e w' => e = .returned (.bool true) ∧ Below w.heap.size w w') := sameInts_any l _ _ g2 0 _ g o _ w (num_of_row hd) hc hn
 have hg2 : g2 < w.heap.size := (Array.getElem?_eq_some_iff.mp hd).1
 have hl := numRow_length l
 have q : ∀ j v, mark2[j]? = some v → w.cell? ⟨g2, l.length + j, none⟩ = some v := by
  intro j v hj
  rw [cell_of_row _ _ _ _ _ _ hd, ← hl]
  simp only [List.getElem?_toArray]
  rw [List.getElem?_append_right (by omega), Nat.add_sub_cancel_left]
  exact hj
 generalize hL : l.length = n at *
 have HQ : Hid (∀ j v, mark2[j]? = some v → w.cell? ⟨g2, n + j, none⟩ = some v) := q
 clear hL q hc hd
 go_enter Try.func39, Try.ntmps39
 go_wp2_with (go_at_call 66; refine HS.out.mono ?_; rintro e w1 ⟨rfl, hb1⟩; have HB : Hid (Below w.heap.size w w1) := hb1; have q0 := (hb1.cell (p := ⟨g2, n + 0, none⟩) hg2).trans (HQ.out 0 _ rfl); rw [Nat.add_zero] at q0; have q1 := (hb1.cell (p := ⟨g2, n + 1, none⟩) hg2).trans (HQ.out 1 _ rfl); clear hb1)
 go_ret
 exact ⟨rfl, HB.out⟩
set_option maxRecDepth 100000 in
set_option maxHeartbeats 2000000 in
theorem sameNotes_any (l : List Nt) (ao bo : Option Addr) (g cap g2 cap2 : Nat) (w : World) (hc : NoteCells w ao g l) (hd : NoteCells w bo g2 l) (hn : l.length ≤ 1000000) :
  Calls Try.prog 40 #[.slice ao l.length cap, .slice bo l.length cap2] w fun e w' => e = .returned (.bool true) ∧ Below w.heap.size w w' := by
 have HC : Hid (NoteCells w ao g l) := hc
 have HD : Hid (NoteCells w bo g2 l) := hd
 clear hc hd
 have t0 : ((l.length : Int) != (l.length : Int)) = false := by simp
 go_enter Try.func40, Try.ntmps40
 go_wp2_with fail
 go_loopw [5] (fun x w' => ∃ k : Nat, x = .int .i64 k ∧ k ≤ l.length ∧ Hid (Below w.heap.size w w')) (fun x _ => l.length - (intOf x).toNat)
 case atStart => exact ⟨0, rfl, by omega, Below.refl _ _⟩
 case round =>
  obtain ⟨k, rfl, hk, HB⟩ := hrel
  by_cases hlt : k < l.length
  ·have tk : decide ((k : Int) < (l.length : Int)) = true := by simp; omega
   obtain ⟨ea, hg, c0, c1, c2, c3, c4⟩ := HC.out.below HB.out k hlt
   obtain ⟨eb, hg2, d0, d1, d2, d3, d4⟩ := HD.out.below HB.out k hlt
   clear HC HD
   subst ea eb
   generalize l[k] = p at *
   obtain ⟨p0, p1, p2, ⟨p3, p4⟩⟩ := p
   simp only at c0 c1 c2 c3 c4 d0 d1 d2 d3 d4
   go_upto_region 6 with fail
   go_region
   all_goals go_wp2_with fail
   all_goals go_roundw
   case rel => exact ⟨k + 1, by go_num, by omega, HB.out.drew⟩
   case measure => simp [intOf]; omega
  ·have tk : decide ((k : Int) < (l.length : Int)) = false := by simp; omega
   go_wp2_with fail
   go_ret
   exact ⟨rfl, HB.out⟩
end Go.Proofs.Ytdgmoiflahoihaa
