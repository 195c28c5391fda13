import Derived.Test.YtdgmoiflahoihaaBDLw
import Derived.Test.YtdgmoiflahoihaaBDUw

namespace Go.Proofs.Ytdgmoiflahoihaa
open Go.RowKit
set_option linter.unusedSimpArgs false
set_option linter.unusedVariables false
def LinesPost (w : World) (r : Option (List Ln)) (e : Ending) (w' : World) : Prop :=
 (match r with
  | none => e = .returned (.tuple #[.slice none 0 0, .int .i64 10])
  | some l => ∃ v, e = .returned (.tuple #[v, .int .i64 0]) ∧ w'.ownsRow w.heap.size 113 3 v l.length (lnCells l)) ∧ Below w.heap.size w w'
theorem lines_append2 {w w3 W w4 : World} {v v' : Value} {l : List Ln} {q : Ln} {o1 o2 : Obj} (hW : W = (w3.alloc o1).alloc o2)
  (hB : Below w.heap.size w w3) (hm : w3.ownsRow w.heap.size 113 3 v l.length (lnCells l))
  (ho : w4.ownsRow w.heap.size 113 3 v' (l.length + 1) (lnCells l ++ lnCell q)) (hg : W.grownBy w4 v.ownBlock) :
  w4.ownsRow w.heap.size 113 3 v' (l ++ [q]).length (lnCells (l ++ [q])) ∧ Below w.heap.size w w4 := by
 subst hW
 have hsz := hB.size
 have hown : ∀ k, v.ownBlock = some k → w.heap.size ≤ k := fun k hk => (hm.lt k hk).1
 refine ⟨?_, ?_⟩
 ·rw [List.length_append]
  have : lnCells (l ++ [q]) = lnCells l ++ lnCell q := by simp [lnCells]
  rw [this]
  exact ho
 ·exact ⟨hg.os.trans hB.os, hg.tape.trans hB.tape, hg.output.trans hB.output, by have := hg.size; simp at this; omega, fun k hk => ((hg.block k (by simp; omega) (fun e => by have := hown k e.symm; omega)).trans (by rw [Below.heap_alloc _ _ _ (by simp; omega), Below.heap_alloc _ _ _ (by omega)])).trans (hB.block k hk)⟩
theorem own_lowL {w w' : World} {base size n : Nat} {e : TypeId} {v : Value} {xs : List Value} (h : w.ownsRow base e size v n xs) (hb : Below w.heap.size w w') : w'.ownsRow base e size v n xs :=
 own_same h (fun k e hl => hb.block k hl)
theorem extract_list (s : ByteArray) (a b : Nat) : (s.extract a b).data.toList = (s.data.toList.drop a).take (b - a) := by
 simp only [ByteArray.data_extract, Array.toList_extract]
theorem refF_cons (cur : List UInt8) (c : UInt8) (r : List UInt8) : refF cur (c :: r) = if c = 10 then (if (lineR cur).2 then (refF [] r).map ((lineR cur).1 :: ·) else none) else refF (cur ++ [c]) r := rfl
theorem refF_nil (cur : List UInt8) : refF cur [] = if cur.isEmpty then some [] else none := rfl
theorem cut_more (s : ByteArray) (a i : Nat) (ha : a ≤ i) (hi : i < s.size) : (s.data.toList.drop a).take (i + 1 - a) = (s.data.toList.drop a).take (i - a) ++ [s[i]] := by
 rw [show i + 1 - a = (i - a) + 1 by omega, List.take_add_one, List.getElem?_drop, show a + (i - a) = i by omega, List.getElem?_eq_getElem (by simpa using hi)]
 rfl
set_option maxRecDepth 100000 in
set_option maxHeartbeats 4000000 in
theorem refLines_any (s : ByteArray) (w : World) (hs : s.size ≤ 2000000) :
  Calls Try.prog 42 #[.string s] w (LinesPost w (refF [] s.data.toList)) := by
 obtain ⟨iV, hiV, hzV, hsV, hbV⟩ := parts_of_info infoLine
 have HLN : Hid (∀ (x : ByteArray) (w' : World), x.size ≤ 2000000 → Calls Try.prog 68 #[.string x] w' fun e w'' => e = .returned (.tuple #[lnV (lineR x.data.toList).1, .bool (lineR x.data.toList).2]) ∧ Below w'.heap.size w' w'') := fun x w' h => refLine_any x w' h
 generalize hPP : LinesPost w (refF [] s.data.toList) = PP
 have HPP : Hid (LinesPost w (refF [] s.data.toList) = PP) := hPP
 clear hPP
 go_enter Try.func42, Try.ntmps42
 go_wp2_with fail
 go_loopw [4, 5, 6] (fun v f j w' => ∃ (an : Option Addr) (nn cn a i : Nat) (M : List Ln), v = .slice an nn cn ∧ f = .int .i64 a ∧ j = .int .i64 i ∧ a ≤ i ∧ i ≤ s.size ∧ M.length ≤ i ∧ Hid (w'.ownsRow w.heap.size 113 3 (.slice an nn cn) M.length (lnCells M)) ∧ Hid (Below w.heap.size w w') ∧ Hid (refF [] s.data.toList = (refF ((s.data.toList.drop a).take (i - a)) (s.data.toList.drop i)).map (M ++ ·))) (fun _ _ j _ => s.size - (intOf j).toNat)
 case atStart =>
  refine ⟨none, 0, 0, 0, 0, [], rfl, rfl, rfl, Nat.le_refl _, Nat.zero_le _, Nat.le_refl _, World.ownsRow_nil .., Below.refl _ _, ?_⟩
  show _ = _
  simp
 case round =>
  obtain ⟨an, nn, cn, a, i, M, rfl, rfl, rfl, hai, his, hM, HO, HW, HF⟩ := hrel
  have hws := HW.out.size
  by_cases hlt : i < s.size
  ·have hF := HF.out
   rw [bdrop s i hlt, refF_cons] at hF
   by_cases h10 : s[i] = 10
   ·have tc : ((s[i].toNat : Int) == 10) = true := by rw [h10]; rfl
    rw [if_pos h10] at hF
    have hsz : (s.extract a i).size ≤ 2000000 := by simp [ByteArray.size_extract]; omega
    have HL : Hid (∀ w', Calls Try.prog 68 #[.string (s.extract a i)] w' fun e w'' => e = .returned (.tuple #[lnV (lineR ((s.data.toList.drop a).take (i - a))).1, .bool (lineR ((s.data.toList.drop a).take (i - a))).2]) ∧ Below w'.heap.size w' w'') := fun w' => by
     have := HLN.out (s.extract a i) w' hsz
     rw [extract_list] at this
     exact this
    generalize lineR ((s.data.toList.drop a).take (i - a)) = R at *
    obtain ⟨q, ok⟩ := R
    simp only at HL hF
    clear HF HLN
    cases ok
    ·have hP : LinesPost w none = PP := by rw [← HPP.out, hF]; rfl
     have HP : Hid (LinesPost w none = PP) := hP
     clear hP hF HPP
     go_wp2_with (first | (go_at_call 68; refine (HL.out _).mono ?_; rintro e w1 ⟨rfl, hb1⟩; have HB : Hid (Below w.heap.size w (w1.alloc (.cells #[.int .i64 q.place, .int .i64 q.val.num, .int .i64 q.val.fault] 113))) := (HW.out.trans (hb1.mono HW.out.size)).alloc (Nat.le_trans HW.out.size hb1.size) _; clear hb1))
     rw [← HP.out]
     exact ⟨rfl, HB.out⟩
    ·have HN : Hid (refF [] s.data.toList = (refF ((s.data.toList.drop (i + 1)).take (i + 1 - (i + 1))) (s.data.toList.drop (i + 1))).map ((M ++ [q]) ++ ·)) := by
      show _ = _
      rw [hF, Nat.sub_self, List.take_zero]
      simp only [if_true]
      cases refF [] (s.data.toList.drop (i + 1)) <;> simp
     clear hF
     have m1 : M.length + 1 ≤ maxLen := by unfold maxLen; omega
     have m2 : (M.length + 1) * 24 ≤ 140737488355328 := by omega
     have hpos : 0 < M.length + 1 := by omega
     go_wp2_with (first | (go_at_call 68; refine (HL.out _).mono ?_; rintro e w1 ⟨rfl, hb1⟩; have HB : Hid (Below w.heap.size w w1) := HW.out.trans (hb1.mono HW.out.size); have HO1 : Hid (w1.ownsRow w.heap.size 113 3 (.slice an nn cn) M.length (lnCells M)) := own_lowL HO.out hb1; clear hb1; have hw1 := HB.out.size) | (at_builtin; refine wpList_append_fresh rfl (.tmp 29) (.tmp 31) 39 rfl w.heap.size 113 iV (.agg #[.int .i64 0, .int .i64 0, .int .i64 0]) 3 24 Try.underlying39 hiV hzV hsV hbV rfl (by decide) (.slice an nn cn) M.length (lnCells M) (by rfl) (by exact (HO1.out.alloc _).alloc _) ⟨w1.heap.size + 1, 0, none⟩ 1 1 (lnCell q) (by rfl) rfl (by exact three_at _ _ (by simp) _ _ _ 113) (by intro q hq; simp [lnCell] at hq; rcases hq with rfl | rfl | rfl <;> rfl) m1 m2 (by simp; omega) (by decide) ?_; intro v' w4 hown hgrow hfr; obtain ⟨a1, a3⟩ := lines_append2 rfl HB.out HO1.out hown hgrow; clear hfr hgrow; obtain ⟨gn, capn, rfl⟩ := Joins.ownsRow_form hown hpos; have A1 : Hid _ := a1; have A3 : Hid (Below w.heap.size w w4) := a3; clear hown a1 a3))
     refine ⟨⟨_, _, _, i + 1, i + 1, M ++ [q], rfl, by go_num, by go_num, Nat.le_refl _, by omega, by simp; omega, A1.out, A3, HN⟩, ?_⟩
     simp [intOf]
     omega
   ·have tc : ((s[i].toNat : Int) == 10) = false := by
     rw [beq_eq_false_iff_ne]
     intro e
     exact h10 (UInt8.toNat_inj.mp (by have a1 : (10 : UInt8).toNat = 10 := rfl; omega))
    rw [if_neg h10] at hF
    have HN : Hid (refF [] s.data.toList = (refF ((s.data.toList.drop a).take (i + 1 - a)) (s.data.toList.drop (i + 1))).map (M ++ ·)) := by
     show _ = _
     rw [cut_more s a i hai hlt]
     exact hF
    clear hF HF HLN
    go_wp2_with fail
    refine ⟨⟨an, nn, cn, a, i + 1, M, rfl, rfl, by go_num, by omega, by omega, by omega, HO, HW, HN⟩, ?_⟩
    simp [intOf]
    omega
  ·have hF := HF.out
   have hil : (s.data.toList.drop i) = [] := List.drop_of_length_le (by simp; omega)
   rw [hil, refF_nil] at hF
   have hce : ((s.data.toList.drop a).take (i - a)).isEmpty = decide (s.size ≤ a) := by
    rw [Bool.eq_iff_iff, List.isEmpty_iff, decide_eq_true_iff, ← List.length_eq_zero_iff, List.length_take, List.length_drop]
    have : s.data.toList.length = s.size := by simp
    omega
   rw [hce] at hF
   by_cases ha : s.size ≤ a
   ·have ta : decide ((a : Int) < (s.size : Int)) = false := by rw [decide_eq_false_iff_not]; omega
    have hP : LinesPost w (some M) = PP := by
     rw [← HPP.out, hF, decide_eq_true ha]
     simp
    have HP : Hid (LinesPost w (some M) = PP) := hP
    clear hP hF HF HLN HPP hce
    go_wp2_with fail
    rw [← HP.out]
    exact ⟨⟨_, rfl, HO.out⟩, HW.out⟩
   ·have ta : decide ((a : Int) < (s.size : Int)) = true := by rw [decide_eq_true_iff]; omega
    have hP : LinesPost w none = PP := by
     rw [← HPP.out, hF, decide_eq_false ha]
     simp
    have HP : Hid (LinesPost w none = PP) := hP
    clear hP hF HF HLN HPP hce
    go_wp2_with fail
    rw [← HP.out]
    exact ⟨rfl, HW.out⟩
end Go.Proofs.Ytdgmoiflahoihaa
