import Derived.Test.YtdgmoiflahoihabGreatDoorROWw
import Derived.Test.YtdgmoiflahoihabGreatDoorBLWw
import Derived.Deep.RegionWith
import Derived.Deep.RegionHeld3
import Derived.Deep.Cut
import Derived.Deep.CutRange

namespace Go.Proofs.YtdgmoiflahoihabGreatDoor
open Go.RowKit
set_option linter.unusedSimpArgs false
set_option linter.unusedVariables false
def rawLn (a b c : Int) : Ln := ⟨(pickN a 401 : Nat), if pickN c 6 = 1 ∨ pickN c 6 = 2 then ⟨0, (pickN c 6 : Nat)⟩ else ⟨b, 0⟩⟩
def rawLines : List Int → List Ln
 | a :: b :: c :: r => rawLn a b c :: rawLines r
 | _ => []
theorem rawLines_step (l : List Int) (i : Nat) (h : i + 2 < l.length) : rawLines (l.drop i) = rawLn l[i] l[i + 1] l[i + 2] :: rawLines (l.drop (i + 3)) := by
 rw [List.drop_eq_getElem_cons (by omega), List.drop_eq_getElem_cons (i := i + 1) (by omega), List.drop_eq_getElem_cons (i := i + 1 + 1) (by omega)]
 rfl
theorem rawLines_end (l : List Int) (i : Nat) (h : ¬ i + 2 < l.length) : rawLines (l.drop i) = [] := by
 have hl : (l.drop i).length ≤ 2 := by simp; omega
 generalize l.drop i = k at hl
 match k, hl with
 | [], _ => rfl
 | [a], _ => rfl
 | [a, b], _ => rfl
 | a :: b :: c :: r, h => simp at h
theorem rawLn_ok {a b c : Int} (hb : -9223372036854775808 ≤ b ∧ b ≤ 9223372036854775807) : LnOk (rawLn a b c) := by
 have h1 := pickN_lt a (n := 401) (by decide)
 have h2 := pickN_lt c (n := 6) (by decide)
 unfold rawLn
 refine ⟨by simp only; omega, by simp only; omega, ?_⟩
 simp only
 split
 ·exact ⟨by simp, by simp only; omega, fun _ => rfl⟩
 ·exact ⟨hb, by simp, fun h => absurd rfl h⟩
theorem rawLines_ok : ∀ (n : Nat) (l : List Int), l.length ≤ n → FsOk l → (∀ x ∈ rawLines l, LnOk x) ∧ (rawLines l).length ≤ l.length
 | 0, l, h, _ => by
  have : l = [] := List.length_eq_zero_iff.mp (by omega)
  subst this
  exact ⟨fun x hx => (by cases hx), Nat.le_refl _⟩
 | n + 1, l, h, hf => by
  match l, h, hf with
  | [], _, _ => exact ⟨fun x hx => (by cases hx), Nat.le_refl _⟩
  | [a], _, _ => exact ⟨fun x hx => (by cases hx), Nat.zero_le _⟩
  | [a, b], _, _ => exact ⟨fun x hx => (by cases hx), Nat.zero_le _⟩
  | a :: b :: c :: r, h, hf =>
   obtain ⟨h1, h2⟩ := rawLines_ok n r (by simp at h; omega) (fun x hx => hf x (by simp [hx]))
   refine ⟨?_, by simp only [rawLines, List.length_cons]; omega⟩
   intro x hx
   rcases List.mem_cons.mp hx with rfl | hx
   ·exact rawLn_ok (hf b (by simp))
   ·exact h1 x hx
theorem lines_append1 {w w3 w4 : World} {v v' : Value} {l : List Ln} {q : Ln} {o : Obj}
  (hB : Below w.heap.size w w3) (hm : w3.ownsRow w.heap.size 39 3 v l.length (lnCells l))
  (ho : w4.ownsRow w.heap.size 39 3 v' (l.length + 1) (lnCells l ++ lnCell q)) (hg : (w3.alloc o).grownBy w4 v.ownBlock) :
  w4.ownsRow w.heap.size 39 3 v' (l ++ [q]).length (lnCells (l ++ [q])) ∧ Below w.heap.size w w4 := by
 have hsz := hB.size
 have hown : ∀ k, v.ownBlock = some k → w.heap.size ≤ k := fun k hk => (hm.lt k hk).1
 refine ⟨?_, ?_⟩
 ·rw [List.length_append]
  have : lnCells (l ++ [q]) = lnCells l ++ lnCell q := by simp [lnCells]
  rw [this]
  exact ho
 ·exact ⟨hg.os.trans hB.os, hg.tape.trans hB.tape, hg.output.trans hB.output, by have := hg.size; simp at this; omega, fun k hk => ((hg.block k (by simp; omega) (fun e => by have := hown k e.symm; omega)).trans (by rw [Below.heap_alloc _ _ _ (by omega)])).trans (hB.block k hk)⟩
theorem three_new (w : World) (a0 a1 a2 : Value) (t : TypeId) : (w.alloc (.cells #[a0, a1, a2] t)).cell? ⟨w.heap.size, 0, none⟩ = some a0 ∧ (w.alloc (.cells #[a0, a1, a2] t)).cell? ⟨w.heap.size, 1, none⟩ = some a1 ∧ (w.alloc (.cells #[a0, a1, a2] t)).cell? ⟨w.heap.size, 2, none⟩ = some a2 ∧ ∀ o, (w.alloc (.cells #[a0, a1, a2] t)).frozen? ⟨w.heap.size, o, none⟩ = false := by
 refine ⟨?_, ?_, ?_, fun o => ?_⟩
 all_goals simp [go_sem]
structure BoxNew (w wx : World) (p : Int) (v : Vl) : Prop where
 below : Below w.heap.size w wx
 size : wx.heap.size = w.heap.size + 1
 c0 : wx.cell? ⟨w.heap.size, 0, none⟩ = some (.int .i64 p)
 c1 : wx.cell? ⟨w.heap.size, 1, none⟩ = some (.int .i64 v.num)
 c2 : wx.cell? ⟨w.heap.size, 2, none⟩ = some (.int .i64 v.fault)
 fz : ∀ o, wx.frozen? ⟨w.heap.size, o, none⟩ = false
theorem boxNew (w : World) (p : Int) (v : Vl) : BoxNew w (w.alloc (.cells #[.int .i64 p, .int .i64 v.num, .int .i64 v.fault] 39)) p v :=
 have h := three_new w (.int .i64 p) (.int .i64 v.num) (.int .i64 v.fault) 39
 ⟨(Below.refl _ _).alloc (Nat.le_refl _) _, by simp, h.1, h.2.1, h.2.2.1, h.2.2.2⟩
theorem BoxNew.drew {w wx : World} {p : Int} {v : Vl} (h : BoxNew w wx p v) : BoxNew w wx.drew p v := ⟨h.below.drew, h.size, h.c0, h.c1, h.c2, h.fz⟩
theorem BoxNew.set {w wx : World} {p : Int} {v : Vl} (h : BoxNew w wx p v) (x : Vl) : BoxNew w ((wx.setCell ⟨w.heap.size, 1, none⟩ (.int .i64 x.num)).setCell ⟨w.heap.size, 2, none⟩ (.int .i64 x.fault)) p x := by
 obtain ⟨hb, hs, c0, c1, c2, fz⟩ := h
 exact ⟨(hb.setCell (by simp) _).setCell (by simp) _, by simp [hs], by simp [go_sem, c0, c1, c2], by simp [go_sem, c0, c1, c2], by simp [go_sem, c0, c1, c2], fun o => by simp [go_sem, fz]⟩
set_option maxRecDepth 100000 in
set_option maxHeartbeats 4000000 in
theorem kLines_any (l : List Int) (ao : Option Addr) (g o cap : Nat) (w : World) (hl : NumCells w ao g o l) (hn : l.length ≤ 1500000) (hfo : FsOk l) :
  Calls Tryz.prog 12 #[.slice ao l.length cap] w fun e w' => (∃ v, e = .returned v ∧ w'.ownsRow w.heap.size 39 3 v (rawLines l).length (lnCells (rawLines l))) ∧ Below w.heap.size w w' := by
 obtain ⟨iV, hiV, hzV, hsV, hbV⟩ := parts_of_info infoLine
 have HL : Hid (NumCells w ao g o l) := hl
 have HFO : Hid (FsOk l) := hfo
 clear hl hfo
 have HR : Hid (([] : List Ln) ++ rawLines (l.drop 0) = rawLines l) := rfl
 generalize hR : rawLines l = R at HR ⊢
 clear hR
 go_enter Tryz.func12, Tryz.ntmps12
 go_wp2_with fail
 go_loopw [3, 4] (fun v x w' => ∃ (an : Option Addr) (nn cn i : Nat) (M : List Ln), v = .slice an nn cn ∧ x = .int .i64 i ∧ i ≤ l.length + 2 ∧ M.length ≤ i ∧ Hid (w'.ownsRow w.heap.size 39 3 (.slice an nn cn) M.length (lnCells M)) ∧ Hid (Below w.heap.size w w') ∧ Hid (M ++ rawLines (l.drop i) = R)) (fun _ x _ => l.length + 3 - (intOf x).toNat)
 case atStart => exact ⟨none, 0, 0, 0, [], rfl, rfl, Nat.zero_le _, Nat.le_refl _, World.ownsRow_nil .., Below.refl _ _, HR⟩
 case round =>
  obtain ⟨an, nn, cn, i, M, rfl, rfl, hi, hM, HO, HW, HF⟩ := hrel
  have hws := HW.out.size
  by_cases hlt : i + 2 < l.length
  ·have ti : decide ((i : Int) + 2 < (l.length : Int)) = true := by rw [decide_eq_true_iff]; omega
   obtain ⟨ea, hg, c0⟩ := HL.out.below HW.out i (by omega)
   obtain ⟨_, _, c1⟩ := HL.out.below HW.out (i + 1) (by omega)
   obtain ⟨_, _, c2⟩ := HL.out.below HW.out (i + 2) (by omega)
   have hF := HF.out
   rw [rawLines_step l i hlt] at hF
   subst ea
   have r0 := HFO.out l[i] (List.getElem_mem _)
   have r2 := HFO.out l[i + 2] (List.getElem_mem _)
   have i0 : (0 : Int) ≤ (i : Int) := by omega
   have i1 : (i : Int) < (l.length : Int) := by omega
   have i2 : (i : Int) + 1 < (l.length : Int) := by omega
   have i3 : (i : Int) + 2 < (l.length : Int) := by omega
   generalize l[i] = a at *
   generalize l[i + 1] = b at *
   generalize l[i + 2] = c at *
   have P1 : Hid (∀ w, Calls Tryz.prog 5 #[.int .i64 a, .int .i64 401] w fun e w' => e = .returned (.int .i64 (pickN a 401 : Nat)) ∧ w' = w) := fun w => pick_any a 401 r0 (by decide) (by decide) w
   have P2 : Hid (∀ w, Calls Tryz.prog 5 #[.int .i64 c, .int .i64 6] w fun e w' => e = .returned (.int .i64 (pickN c 6 : Nat)) ∧ w' = w) := fun w => pick_any c 6 r2 (by decide) (by decide) w
   have i4 : (0 : Int) ≤ (i : Int) + 1 := by omega
   have i5 : (0 : Int) ≤ (i : Int) + 2 := by omega
   have i6 : ((i : Int) + 1).toNat = i + 1 := by omega
   have i7 : ((i : Int) + 2).toNat = i + 2 := by omega
   have i8 : IntKind.i64.wrap ((i : Int) + 1) = (i : Int) + 1 := by rw [IntKind.wrap_i64]; omega
   have hgn : ¬ g = wr.heap.size := by omega
   have hgn2 : ¬ wr.heap.size = g := by omega
   go_upto_region 5 with fail
   go_cut [5] from 14 to 25 (fun x wx => x = .pointer (some ⟨wr.heap.size, 0, none⟩) ∧ Hid (BoxNew wr wx (pickN a 401 : Nat) ⟨b, 0⟩))
   case first =>
    go_region_with (go_at_call 5; refine (P1.out _).mono ?_; rintro e w1 ⟨rfl, rfl⟩)
    all_goals (go_wp2_with fail; go_meet)
    all_goals exact ⟨rfl, (boxNew wr (pickN a 401 : Nat) ⟨b, 0⟩).drew⟩
   case rest =>
    obtain ⟨rfl, HX⟩ := hcut
    have hxs := HX.out.size
    have d2 : wc.cell? ⟨g, o + (i + 2), none⟩ = some (.int .i64 c) := (HX.out.below.cell (p := ⟨g, o + (i + 2), none⟩) hg).trans c2
    have HQ : Hid (rawLn a b c = ⟨(pickN a 401 : Nat), if pickN c 6 = 1 ∨ pickN c 6 = 2 then ⟨0, (pickN c 6 : Nat)⟩ else ⟨b, 0⟩⟩) := rfl
    generalize rawLn a b c = q at *
    generalize pickN a 401 = kp at *
    generalize pickN c 6 = kc at *
    go_upto_region 7 with (go_at_call 5; refine (P2.out _).mono ?_; rintro e w1 ⟨rfl, rfl⟩)
    clear c0 c1 c2 d2 P1 P2
    generalize hTB : (decide (kc = 1) || decide (kc = 2)) = TB
    have HTB : Hid ((decide (kc = 1) || decide (kc = 2)) = TB) := hTB
    clear hTB
    go_cut [37] from 32 to 36 (fun x wx => x = .bool TB ∧ wx = w1)
    case first =>
     by_cases h1 : kc = 1
     ·have t1 : ((kc : Int) == 1) = true := by rw [beq_iff_eq]; omega
      have t3 : TB = true := by rw [← HTB.out]; simp [h1]
      subst t3
      clear h1
      go_wp2_with fail
      all_goals go_meet
      all_goals exact ⟨rfl, rfl⟩
     ·have t1 : ((kc : Int) == 1) = false := by rw [Bool.eq_false_iff]; intro h; rw [beq_iff_eq] at h; omega
      have t3 : ((kc : Int) == 2) = TB := by rw [← HTB.out, decide_eq_false h1, Bool.false_or, Bool.eq_iff_iff, beq_iff_eq, decide_eq_true_iff]; omega
      clear h1
      go_wp2_with fail
      all_goals go_meet
      all_goals exact ⟨rfl, rfl⟩
    case rest =>
    obtain ⟨rfl, rfl⟩ := hcut
    have e0 := HX.out.c0
    have e1 := HX.out.c1
    have e2 := HX.out.c2
    have fz := HX.out.fz
    simp only at e1 e2
    go_upto_if 37 with fail
    go_cut [] from 38 to 40 (fun wx => Hid (BoxNew wr wx q.place q.val))
    case first =>
     by_cases h1 : kc = 1 ∨ kc = 2
     ·have t3 : TB = true := by rw [← HTB.out]; simp [h1]
      subst t3
      have hq : q = ⟨kp, ⟨0, kc⟩⟩ := by rw [HQ.out, if_pos h1]
      subst hq
      clear h1 HQ
      go_wp2_with fail
      all_goals go_meet
      all_goals exact HX.out.set ⟨0, kc⟩
     ·have t3 : TB = false := by rw [← HTB.out]; simpa using h1
      subst t3
      have hq : q = ⟨kp, ⟨b, 0⟩⟩ := by rw [HQ.out, if_neg h1]
      subst hq
      clear h1 HQ
      go_wp2_with fail
      all_goals go_meet
      all_goals exact HX
    case rest =>
    have HY : Hid (BoxNew wr wc q.place q.val) := hcut
    clear hcut e0 e1 e2 fz HX HTB HQ
    have e0 := HY.out.c0
    have e1 := HY.out.c1
    have e2 := HY.out.c2
    have hyb : w.heap.size ≤ wc.heap.size := by have := HY.out.size; omega
    have hpos : 0 < M.length + 1 := by omega
    have m1 : M.length + 1 ≤ maxLen := by unfold maxLen; omega
    have m2 : (M.length + 1) * 24 ≤ 140737488355328 := by omega
    have HBy : Hid (Below w.heap.size w wc) := HW.out.trans (HY.out.below.mono HW.out.size)
    have HOy : Hid (wc.ownsRow w.heap.size 39 3 (.slice an nn cn) M.length (lnCells M)) := own_lowB HO.out HY.out.below
    have HF2 : Hid ((M ++ [q]) ++ rawLines (l.drop (i + 3)) = R) := by show _ = _; rw [← hF]; simp
    have hML : (M ++ [q]).length ≤ i + 3 := by simp; omega
    clear HF hF HL HFO hxs hws
    go_wp2_with (at_builtin; refine wpList_append_fresh rfl (.tmp 41) (.tmp 43) 34 rfl w.heap.size 39 iV (.agg #[.int .i64 0, .int .i64 0, .int .i64 0]) 3 24 Tryz.underlying34 hiV hzV hsV hbV rfl (by decide) (.slice an nn cn) M.length (lnCells M) (by rfl) (by exact HOy.out.alloc _) ⟨wc.heap.size, 0, none⟩ 1 1 (lnCell q) (by rfl) rfl (by exact three_at _ _ rfl _ _ _ 39) (by intro q hq; simp [lnCell] at hq; rcases hq with rfl | rfl | rfl <;> rfl) m1 m2 (by simp; omega) (by decide) ?_; intro v' w4 hown hgrow hfr; obtain ⟨a1, a2⟩ := lines_append1 HBy.out HOy.out hown hgrow; clear hfr hgrow; obtain ⟨gn, capn, rfl⟩ := Joins.ownsRow_form hown hpos; have A1 : Hid _ := a1; have A2 : Hid (Below w.heap.size w w4) := a2; clear hown a1 a2)
    refine ⟨⟨_, _, _, i + 3, M ++ [q], rfl, by go_num, by omega, hML, ?_, A2, HF2⟩, ?_⟩
    ·exact A1.out
    ·simp [intOf]
     omega
  ·have ti : decide ((i : Int) + 2 < (l.length : Int)) = false := by rw [decide_eq_false_iff_not]; omega
   have HF2 : Hid (M = R) := by
    have := HF.out
    rw [rawLines_end l i hlt, List.append_nil] at this
    exact this
   clear HF HL HFO
   go_wp2_with fail
   go_ret
   rw [← HF2.out]
   exact ⟨⟨_, rfl, HO.out⟩, HW.out⟩
end Go.Proofs.YtdgmoiflahoihabGreatDoor
