import Derived.Test.YtdgmoiflahoihaaEVF
import Derived.Test.YtdgmoiflahoihaaEVR
import Derived.Test.YtdgmoiflahoihaaELC

namespace Go.Proofs.Ytdgmoiflahoihaa
open Go.RowKit
open Go.WideShapes (add_plain)
set_option linter.unusedSimpArgs false
set_option linter.unusedVariables false
theorem infoIns4 : (Try.prog.info? 70).map (·.size) = some 4 := by kernel_rfl
theorem make_ins (n : Nat) (hn : 32 * (n + 2) ≤ 281474976710656) : ∃ Z : List Value, Z.length = (n + 2) * 4 ∧ ∀ w : World, (Instr.makeSlice 29 (.int .i64 ((n : Int) + 2)) (.int .i64 ((n : Int) + 2))).run Try.prog w = .ok (.slice (some ⟨w.heap.size, 0, none⟩) (n + 2) (n + 2)) (w.alloc (.cells Z.toArray 70)) := by
 obtain ⟨i, hi, hz, hs, hb⟩ := parts_of_info2 infoIns
 refine ⟨(madeCells #[.int .i64 0, .int .i64 0, .int .i64 0, .int .i64 0] ((n + 2) * 4)).toList, by simp [size_madeCells], fun w => ?_⟩
 have k := run_make (P := Try.prog) w 29 70 i _ Try.underlying29 hi hz .i64 .i64 ((n : Int) + 2) ((n : Int) + 2) (by omega) (by omega) (by rw [hb]; omega) (by omega)
 rw [hs, show ((n : Int) + 2).toNat = n + 2 by omega] at k
 rw [k]
 rfl
@[reducible] def markRow : List Value := [.int .i64 77, .int .i64 0, .int .i64 0, .int .i64 0, .int .i64 77, .int .i64 0, .int .i64 0, .int .i64 0]
theorem list8 (z : List Value) (h : z.length = 8) : ∃ a b c d e f g i, z = [a, b, c, d, e, f, g, i] := by
 match z, h with
 | [a, b, c, d, e, f, g, i], _ => exact ⟨a, b, c, d, e, f, g, i, rfl⟩
theorem mark_list (cs : List Value) (n : Nat) (h : cs.length = n * 4) (a b c d e f g i : Value) :
  ((((((((cs ++ [a, b, c, d, e, f, g, i]).set (n * 4) (.int .i64 77)).set (n * 4 + 1) (.int .i64 0)).set (n * 4 + 2) (.int .i64 0)).set (n * 4 + 3) (.int .i64 0)).set ((n + 1) * 4) (.int .i64 77)).set ((n + 1) * 4 + 1) (.int .i64 0)).set ((n + 1) * 4 + 2) (.int .i64 0)).set ((n + 1) * 4 + 3) (.int .i64 0) = cs ++ markRow := by
 rw [show (n + 1) * 4 = n * 4 + 4 by omega, ← h]
 have k := set_mid cs [a, b, c, d, e, f, g, i] 0 (.int .i64 77)
 rw [Nat.add_zero] at k
 rw [k, set_mid, set_mid, set_mid, set_mid, show cs.length + 4 + 1 = cs.length + 5 by omega, set_mid, show cs.length + 4 + 2 = cs.length + 6 by omega, set_mid, show cs.length + 4 + 3 = cs.length + 7 by omega, set_mid]
 rfl
set_option maxRecDepth 100000 in
set_option maxHeartbeats 2000000 in
theorem codeOf_any (l : List Ic) (ao : Option Addr) (g o cap : Nat) (w : World) (hc : InsCells w ao g o l) (hn : 32 * (l.length + 2) ≤ 281474976710656) :
  Calls Try.prog 13 #[.slice ao l.length cap] w fun e w' => e = .returned (.slice (some ⟨w.heap.size, 0, none⟩) l.length (l.length + 2)) ∧ w'.heap[w.heap.size]? = some (.cells (icRow l ++ markRow).toArray 70 (0, 0)) ∧ Below w.heap.size w w' := by
 obtain ⟨Z, hZ, hmk⟩ := make_ins l.length hn
 have hcs := icRow_length l
 have HC : Hid (0 < l.length → ∃ ad, ao = some ad ∧ ∀ j v, (icRow l)[j]? = some v → (w.alloc (.cells Z.toArray 70)).cell? (ad.add j) = some v) := by
  intro h0
  obtain ⟨e0, _⟩ := hc 0 h0
  refine ⟨_, e0, fun j v hj => ?_⟩
  have hb : Below w.heap.size w (w.alloc (.cells Z.toArray 70)) := (Below.refl _ _).alloc (Nat.le_refl _) _
  have hjl : j < l.length * 4 := by rw [← hcs]; exact (List.getElem?_eq_some_iff.mp hj).1
  obtain ⟨_, hg, c0, c1, c2, c3⟩ := hc (j / 4) (by omega)
  obtain ⟨d0, d1, d2, d3⟩ := icRow_at l (j / 4) (by omega)
  rw [add_plain, hb.cell (p := ⟨g, o + j, none⟩) hg]
  rcases (show j = j / 4 * 4 ∨ j = j / 4 * 4 + 1 ∨ j = j / 4 * 4 + 2 ∨ j = j / 4 * 4 + 3 by omega) with h | h | h | h
  ·rw [h] at hj; rw [d0] at hj; rw [h]; rw [← hj]; exact c0
  ·rw [h] at hj; rw [d1] at hj; rw [h]; rw [← hj]; exact c1
  ·rw [h] at hj; rw [d2] at hj; rw [h]; rw [← hj]; exact c2
  ·rw [h] at hj; rw [d3] at hj; rw [h]; rw [← hj]; exact c3
 have HO : Hid _ := icRow_one l
 have HN : Hid (l.length = 0 → icRow l = []) := fun h => List.eq_nil_of_length_eq_zero (by omega)
 generalize icRow l = cs at *
 generalize hL : l.length = n at *
 clear hL hc
 have HH : Hid ((w.alloc (.cells Z.toArray 70)).heap[w.heap.size]? = some (.cells Z.toArray 70 (0, 0))) := heap_alloc_new w _
 have HB : Hid (Below w.heap.size w (w.alloc (.cells Z.toArray 70))) := (Below.refl _ _).alloc (Nat.le_refl _) _
 go_enter Try.func13, Try.ntmps13
 go_upto_region 3 with fail
 generalize (w.alloc (.cells Z.toArray 70)) = W at *
 obtain ⟨W2, hcp, hG2, hB2⟩ := copy_gives (P := Try.prog) W 29 29 3 70 4 Try.underlying29 infoIns4 ao w.heap.size (n + 2) (n + 2) n cap Z 70 HH.out cs (by omega) (by omega) HN.out HC.out (by omega) HO.out w.heap.size w HB.out (Nat.le_refl _)
 go_upto_region 4 with fail
 obtain ⟨a, b, c, d, e, f, h, i, hz⟩ := list8 (Z.drop cs.length) (by simp; omega)
 rw [hz] at hG2
 have q : ∀ j v, ([a, b, c, d, e, f, h, i] : List Value)[j]? = some v → W2.cell? ⟨w.heap.size, n * 4 + j, none⟩ = some v := by
  intro j v hj
  rw [cell_of_row _ _ _ _ _ _ hG2, ← hcs]
  simp [List.getElem?_append_right, hj]
 have fz : ∀ o, W2.frozen? ⟨w.heap.size, o, none⟩ = false := by intro o; simp [World.frozen?, hG2]
 have q0 := q 0 a rfl
 have q1 := q 1 b rfl
 have q2 := q 2 c rfl
 have q3 := q 3 d rfl
 have q4 := q 4 e rfl
 have q5 := q 5 f rfl
 have q6 := q 6 h rfl
 have q7 := q 7 i rfl
 rw [Nat.add_zero] at q0
 rw [show n * 4 + 4 = (n + 1) * 4 by omega] at q4
 rw [show n * 4 + 5 = (n + 1) * 4 + 1 by omega] at q5
 rw [show n * 4 + 6 = (n + 1) * 4 + 2 by omega] at q6
 rw [show n * 4 + 7 = (n + 1) * 4 + 3 by omega] at q7
 have HG : Hid (W2.heap[w.heap.size]? = some (.cells (cs ++ [a, b, c, d, e, f, h, i]).toArray 70 (0, 0))) := hG2
 have HB2 : Hid (Below w.heap.size w W2) := hB2
 clear q hcp hG2 hB2 hz hmk HC HH HB
 go_wp2_with fail
 go_ret
 refine ⟨rfl, ?_, ?_⟩
 ·have k := row_set (row_set (row_set (row_set (row_set (row_set (row_set (row_set HG.out (n * 4) (.int .i64 77)) (n * 4 + 1) (.int .i64 0)) (n * 4 + 2) (.int .i64 0)) (n * 4 + 3) (.int .i64 0)) ((n + 1) * 4) (.int .i64 77)) ((n + 1) * 4 + 1) (.int .i64 0)) ((n + 1) * 4 + 2) (.int .i64 0)) ((n + 1) * 4 + 3) (.int .i64 0)
  rw [mark_list cs n hcs] at k
  exact k
 ·exact (((((((HB2.out.setCell (by simp) _).setCell (by simp) _).setCell (by simp) _).setCell (by simp) _).setCell (by simp) _).setCell (by simp) _).setCell (by simp) _).setCell (by simp) _
set_option maxRecDepth 100000 in
set_option maxHeartbeats 2000000 in
theorem sameCode_any (l : List Ic) (ao bo : Option Addr) (g o cap g2 o2 cap2 : Nat) (w : World) (hc : InsCells w ao g o l) (hd : InsCells w bo g2 o2 l) (hn : 32 * (l.length + 2) ≤ 281474976710656) :
  Calls Try.prog 35 #[.slice ao l.length cap, .slice bo l.length cap2] w fun e w' => e = .returned (.bool true) ∧ Below w.heap.size w w' := by
 have HC : Hid (InsCells w ao g o l) := hc
 have HD : Hid (InsCells w bo g2 o2 l) := hd
 clear hc hd
 have t0 : ((l.length : Int) != (l.length : Int)) = false := by simp
 go_enter Try.func35, Try.ntmps35
 go_wp2_with fail
 go_loopw [5] (fun x w' => ∃ k : Nat, x = .int .i64 k ∧ k ≤ l.length ∧ Hid (Below w.heap.size w w')) (fun x _ => l.length - (intOf x).toNat)
 case atStart => exact ⟨0, rfl, by omega, Below.refl _ _⟩
 case round =>
  obtain ⟨k, rfl, hk, HB⟩ := hrel
  by_cases hlt : k < l.length
  ·have tk : decide ((k : Int) < (l.length : Int)) = true := by simp; omega
   obtain ⟨ea, hg, c0, c1, c2, c3⟩ := HC.out.below HB.out k hlt
   obtain ⟨eb, hg2, d0, d1, d2, d3⟩ := HD.out.below HB.out k hlt
   have HC2 : Hid (InsCells w ao g o l) := HC
   subst ea eb
   generalize l[k] = p at *
   obtain ⟨po, pa, pb, pc⟩ := p
   simp only at c0 c1 c2 c3 d0 d1 d2 d3
   go_upto_region 6 with fail
   go_region
   all_goals go_wp2_with fail
   all_goals go_roundw
   case rel => exact ⟨k + 1, by go_num, by omega, HB.out.drew⟩
   case measure => simp [intOf]; omega
  ·have tk : decide ((k : Int) < (l.length : Int)) = false := by simp; omega
   go_wp2_with fail
   go_ret
   exact ⟨rfl, HB.out⟩
theorem ins_of_row {w : World} {g : Nat} {l : List Ic} {t : TypeId} {r : List Value} (h : w.heap[g]? = some (.cells (icRow l ++ r).toArray t (0, 0))) : InsCells w (some ⟨g, 0, none⟩) g 0 l := by
 have hl := icRow_length l
 intro i hi
 obtain ⟨c0, c1, c2, c3⟩ := icRow_at l i hi
 refine ⟨rfl, (Array.getElem?_eq_some_iff.mp h).1, ?_, ?_, ?_, ?_⟩
 ·rw [cell_of_row _ _ _ _ _ _ h, Nat.zero_add]; simp only [List.getElem?_toArray]; rw [List.getElem?_append_left (by omega)]; exact c0
 ·rw [cell_of_row _ _ _ _ _ _ h, Nat.zero_add]; simp only [List.getElem?_toArray]; rw [List.getElem?_append_left (by omega)]; exact c1
 ·rw [cell_of_row _ _ _ _ _ _ h, Nat.zero_add]; simp only [List.getElem?_toArray]; rw [List.getElem?_append_left (by omega)]; exact c2
 ·rw [cell_of_row _ _ _ _ _ _ h, Nat.zero_add]; simp only [List.getElem?_toArray]; rw [List.getElem?_append_left (by omega)]; exact c3
set_option maxRecDepth 100000 in
set_option maxHeartbeats 2000000 in
theorem stillCode_any (l : List Ic) (g2 : Nat) (ao : Option Addr) (g o cap : Nat) (w : World) (hd : w.heap[g2]? = some (.cells (icRow l ++ markRow).toArray 70 (0, 0))) (hc : InsCells w ao g o l) (hn : 32 * (l.length + 2) ≤ 281474976710656) :
  Calls Try.prog 16 #[.slice (some ⟨g2, 0, none⟩) l.length (l.length + 2), .slice ao l.length cap] w fun e w' => e = .returned (.bool true) ∧ Below w.heap.size w w' := by
 have HS : Hid (Calls Try.prog 35 #[.slice (some ⟨g2, 0, none⟩) l.length (l.length + 2), .slice ao l.length cap] w fun e w' => e = .returned (.bool true) ∧ Below w.heap.size w w') := sameCode_any l _ _ g2 0 _ g o _ w (ins_of_row hd) hc hn
 have hg2 : g2 < w.heap.size := (Array.getElem?_eq_some_iff.mp hd).1
 have hl := icRow_length l
 have q : ∀ j v, markRow[j]? = some v → w.cell? ⟨g2, l.length * 4 + j, none⟩ = some v := by
  intro j v hj
  rw [cell_of_row _ _ _ _ _ _ hd, ← hl]
  simp only [List.getElem?_toArray]
  rw [List.getElem?_append_right (by omega), Nat.add_sub_cancel_left]
  exact hj
 generalize hL : l.length = n at *
 have HQ : Hid (∀ j v, markRow[j]? = some v → w.cell? ⟨g2, n * 4 + j, none⟩ = some v) := q
 clear hL q hc hd
 go_enter Try.func16, Try.ntmps16
 go_wp2_with (go_at_call 35; refine HS.out.mono ?_; rintro e w1 ⟨rfl, hb1⟩; have HB : Hid (Below w.heap.size w w1) := hb1; have q0 := (hb1.cell (p := ⟨g2, n * 4 + 0, none⟩) hg2).trans (HQ.out 0 _ rfl); rw [Nat.add_zero] at q0; have q1 := (hb1.cell (p := ⟨g2, n * 4 + 1, none⟩) hg2).trans (HQ.out 1 _ rfl); have q2 := (hb1.cell (p := ⟨g2, n * 4 + 2, none⟩) hg2).trans (HQ.out 2 _ rfl); have q3 := (hb1.cell (p := ⟨g2, n * 4 + 3, none⟩) hg2).trans (HQ.out 3 _ rfl); have q4 := (hb1.cell (p := ⟨g2, n * 4 + 4, none⟩) hg2).trans (HQ.out 4 _ rfl); rw [show n * 4 + 4 = (n + 1) * 4 by omega] at q4; have q5 := (hb1.cell (p := ⟨g2, n * 4 + 5, none⟩) hg2).trans (HQ.out 5 _ rfl); rw [show n * 4 + 5 = (n + 1) * 4 + 1 by omega] at q5; have q6 := (hb1.cell (p := ⟨g2, n * 4 + 6, none⟩) hg2).trans (HQ.out 6 _ rfl); rw [show n * 4 + 6 = (n + 1) * 4 + 2 by omega] at q6; have q7 := (hb1.cell (p := ⟨g2, n * 4 + 7, none⟩) hg2).trans (HQ.out 7 _ rfl); rw [show n * 4 + 7 = (n + 1) * 4 + 3 by omega] at q7; clear hb1)
 go_ret
 exact ⟨rfl, HB.out⟩
end Go.Proofs.Ytdgmoiflahoihaa
