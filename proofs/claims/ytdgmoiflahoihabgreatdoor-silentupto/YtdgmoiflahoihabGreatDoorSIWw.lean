import Derived.Test.YtdgmoiflahoihabGreatDoorSIQw
import Derived.Test.YtdgmoiflahoihabGreatDoorBLWw
import Derived.Test.YtdgmoiflahoihabGreatDoorKWw

namespace Go.Proofs.YtdgmoiflahoihabGreatDoor
open Go.RowKit
set_option linter.unusedSimpArgs false
set_option linter.unusedVariables false
theorem or_goes {a r : Nat} (ha : a < 16) (hr : r < 16) : (bits .or .i64 (a : Int) (r : Int) == (r : Int)) = goesB a r ∧ (bits .or .i64 (a : Int) (r : Int) != (r : Int)) = !goesB a r := by
 have e : bits .or .i64 (a : Int) (r : Int) = ((a ||| r : Nat) : Int) := i64_or_nat a r (by omega) (by omega)
 rw [e]
 have h1 : (((a ||| r : Nat) : Int) == (r : Int)) = goesB a r := by
  unfold goesB
  rw [Bool.eq_iff_iff, beq_iff_eq, decide_eq_true_iff]
  omega
 exact ⟨h1, by rw [bne, h1]⟩
theorem seen_drop (r : Nat) (N : List Nt) (k : Nat) (hk : k < N.length) : seenN r (N.drop k) = (if (N[k].kind == 1 && goesB N[k].label r) then [N[k]] else []) ++ seenN r (N.drop (k + 1)) := by
 rw [List.drop_eq_getElem_cons hk]
 have : N[k] :: N.drop (k + 1) = [N[k]] ++ N.drop (k + 1) := rfl
 rw [this, seenN_app, seen_one]
theorem five_at (w : World) (g : Nat) (hg : g = w.heap.size) (a0 a1 a2 a3 a4 : Value) (t : TypeId) : ∀ j u, [a0, a1, a2, a3, a4][j]? = some u → (w.alloc (.cells #[a0, a1, a2, a3, a4] t)).cell? ((⟨g, 0, none⟩ : Addr).add j) = some u := by
 subst hg
 intro j u h
 match j, h with
 | 0, h => simp at h; subst h; simp [go_sem, Addr.add]
 | 1, h => simp at h; subst h; simp [go_sem, Addr.add]
 | 2, h => simp at h; subst h; simp [go_sem, Addr.add]
 | 3, h => simp at h; subst h; simp [go_sem, Addr.add]
 | 4, h => simp at h; subst h; simp [go_sem, Addr.add]
 | j + 5, h => simp at h
set_option maxRecDepth 100000 in
set_option maxHeartbeats 4000000 in
theorem seen_any (N : List Nt) (r : Nat) (hr : r < 16) (ao : Option Addr) (g cap : Nat) (w : World) (hN : NoteCells w ao g N) (hfew : N.length ≤ 5000) (hok : ∀ x ∈ N, NtOk x) :
  Calls Tryz.prog 22 #[.slice ao N.length cap, .int .i64 (r : Int)] w fun e w' => (∃ v, e = .returned v ∧ w'.ownsRow w.heap.size 70 5 v (seenN r N).length (ntCells (seenN r N))) ∧ Below w.heap.size w w' := by
 obtain ⟨iV, hiV, hzV, hsV, hbV⟩ := parts_of_info infoNote
 have HN : Hid (NoteCells w ao g N) := hN
 have HOK : Hid (∀ x ∈ N, NtOk x) := hok
 clear hN hok
 generalize hR : seenN r N = R
 have HR : Hid (([] : List Nt) ++ seenN r (N.drop 0) = R) := hR
 clear hR
 go_enter Tryz.func22, Tryz.ntmps22
 go_wp2_with fail
 go_loopw [5, 6] (fun v x w' => ∃ (an : Option Addr) (nn cn k : Nat) (M : List Nt), v = .slice an nn cn ∧ x = .int .i64 k ∧ k ≤ N.length ∧ M.length ≤ k ∧ Hid (w'.ownsRow w.heap.size 70 5 (.slice an nn cn) M.length (ntCells M)) ∧ Hid (Below w.heap.size w w') ∧ Hid (M ++ seenN r (N.drop k) = R)) (fun _ x _ => N.length - (intOf x).toNat)
 case atStart => exact ⟨none, 0, 0, 0, [], rfl, rfl, Nat.zero_le _, Nat.le_refl _, World.ownsRow_nil .., Below.refl _ _, HR⟩
 case round =>
  obtain ⟨an, nn, cn, k, M, rfl, rfl, hk, hM, HO, HW, HF⟩ := hrel
  have hws := HW.out.size
  by_cases hlt : k < N.length
  ·have tk : decide ((k : Int) < (N.length : Int)) = true := by rw [decide_eq_true_iff]; omega
   obtain ⟨ea, hg, c0, c1, c2, c3, c4⟩ := HN.out.below HW.out k hlt
   have hxl := (HOK.out N[k] (List.getElem_mem hlt)).label
   have hF := HF.out
   rw [seen_drop r N k hlt] at hF
   subst ea
   generalize N[k] = x at *
   have hg2 := (or_goes hxl hr).1
   generalize goesB x.label r = G at *
   clear HF HN HOK
   cases hk1 : (x.kind == 1)
   ·rw [hk1] at hF
    have HF2 : Hid (M ++ seenN r (N.drop (k + 1)) = R) := by show _ = _; simpa using hF
    clear hF
    go_wp2_with fail
    refine ⟨⟨an, nn, cn, k + 1, M, rfl, by go_num, by omega, by omega, HO, HW, HF2⟩, ?_⟩
    simp [intOf]
    omega
   ·rw [hk1, Bool.true_and] at hF
    cases G
    ·have HF2 : Hid (M ++ seenN r (N.drop (k + 1)) = R) := by show _ = _; simpa using hF
     clear hF
     go_wp2_with fail
     refine ⟨⟨an, nn, cn, k + 1, M, rfl, by go_num, by omega, by omega, HO, HW, HF2⟩, ?_⟩
     simp [intOf]
     omega
    ·have HF2 : Hid ((M ++ [x]) ++ seenN r (N.drop (k + 1)) = R) := by show _ = _; rw [← hF]; simp
     clear hF
     have m1 : M.length + 1 ≤ maxLen := by unfold maxLen; omega
     have m2 : (M.length + 1) * 40 ≤ 140737488355328 := by omega
     have hpos : 0 < M.length + 1 := by omega
     go_wp2_with (first | (at_builtin; refine wpList_append_fresh rfl (.tmp 30) (.tmp 35) 51 rfl w.heap.size 70 iV (.agg #[.int .i64 0, .int .i64 0, .int .i64 0, .int .i64 0, .int .i64 0]) 5 40 Tryz.underlying51 hiV hzV hsV hbV rfl (by decide) (.slice an nn cn) M.length (ntCells M) (by rfl) (by exact HO.out.alloc _) ⟨wr.heap.size, 0, none⟩ 1 1 (ntCell x) (by rfl) rfl (by exact five_at wr _ rfl _ _ _ _ _ 70) (by intro q hq; simp [ntCell] at hq; rcases hq with rfl | rfl | rfl | rfl | rfl <;> rfl) m1 m2 (by simp; omega) (by decide) ?_; intro v' w4 hown hgrow hfr; have hlow := key_low HW.out hgrow (fun k hk => (HO.out.lt k hk).1); clear hfr hgrow; obtain ⟨gn, capn, rfl⟩ := Joins.ownsRow_form hown hpos; have HOW : Hid (w4.ownsRow w.heap.size 70 5 (.slice (some ⟨gn, 0, none⟩) (M.length + 1) capn) (M.length + 1) (ntCells M ++ ntCell x)) := hown; have HLW : Hid (Below w.heap.size w w4) := hlow; clear hown hlow))
     refine ⟨⟨_, _, _, k + 1, M ++ [x], rfl, by go_num, by omega, by simp; omega, ?_, HLW, HF2⟩, ?_⟩
     ·show World.ownsRow _ _ _ _ _ _ _
      rw [show (M ++ [x]).length = M.length + 1 by simp, ntCells_app, show ntCells [x] = ntCell x by simp [ntCells]]
      exact HOW.out
     ·simp [intOf]
      omega
  ·have tk : decide ((k : Int) < (N.length : Int)) = false := by rw [decide_eq_false_iff_not]; omega
   have HF2 : Hid (M = R) := by
    have := HF.out
    rw [List.drop_of_length_le (by omega)] at this
    show _ = _
    simpa [seenN] using this
   clear HF HN HOK
   go_wp2_with fail
   go_ret
   rw [← HF2.out]
   exact ⟨⟨_, rfl, HO.out⟩, HW.out⟩
def SameP (P Q : List Nt) (e : Ending) : Prop := ∃ b, e = .returned (.bool b) ∧ (b = true → P = Q)
set_option maxRecDepth 100000 in
set_option maxHeartbeats 4000000 in
theorem sameN_any (P Q : List Nt) (ao bo : Option Addr) (g cap g2 cap2 : Nat) (w : World) (hc : NoteCells w ao g P) (hd : NoteCells w bo g2 Q) (hn : P.length ≤ 1000000) (hn2 : Q.length ≤ 1000000) :
  Calls Tryz.prog 23 #[.slice ao P.length cap, .slice bo Q.length cap2] w fun e w' => SameP P Q e ∧ Below w.heap.size w w' := by
 have HC : Hid (NoteCells w ao g P) := hc
 have HD : Hid (NoteCells w bo g2 Q) := hd
 clear hc hd
 by_cases hl : P.length = Q.length
 ·have t0 : ((P.length : Int) != (Q.length : Int)) = false := by rw [hl]; simp
  go_enter Tryz.func23, Tryz.ntmps23
  go_wp2_with fail
  go_loopw [5] (fun x w' => ∃ k : Nat, x = .int .i64 k ∧ k ≤ P.length ∧ Hid (P.take k = Q.take k) ∧ Hid (Below w.heap.size w w')) (fun x _ => P.length - (intOf x).toNat)
  case atStart => exact ⟨0, rfl, by omega, rfl, Below.refl _ _⟩
  case round =>
   obtain ⟨k, rfl, hk, HE, HB⟩ := hrel
   by_cases hlt : k < P.length
   ·have tk : decide ((k : Int) < (P.length : Int)) = true := by rw [decide_eq_true_iff]; omega
    have hlt2 : k < Q.length := by omega
    have k1 : (k : Int) < (P.length : Int) := by omega
    have k2 : (k : Int) < (Q.length : Int) := by omega
    obtain ⟨ea, hg, c0, c1, c2, c3, c4⟩ := HC.out.below HB.out k hlt
    obtain ⟨eb, hg2, d0, d1, d2, d3, d4⟩ := HD.out.below HB.out k hlt2
    have HE2 : Hid (P[k] = Q[k] → P.take (k + 1) = Q.take (k + 1)) := fun e => by
     rw [List.take_add_one, List.take_add_one, HE.out, List.getElem?_eq_getElem hlt, List.getElem?_eq_getElem hlt2, e]
    clear HC HD HE
    subst ea eb
    generalize P[k] = p at *
    generalize Q[k] = q at *
    obtain ⟨p0, p1, p2, ⟨p3, p4⟩⟩ := p
    obtain ⟨q0, q1, q2, ⟨q3, q4⟩⟩ := q
    simp only at c0 c1 c2 c3 c4 d0 d1 d2 d3 d4
    by_cases h0 : p0 = q0
    ·subst h0
     by_cases h1 : (p1 : Int) = (q1 : Int)
     ·obtain rfl : p1 = q1 := by omega
      by_cases h2 : (p2 : Int) = (q2 : Int)
      ·obtain rfl : p2 = q2 := by omega
       by_cases h3 : p3 = q3
       ·subst h3
        by_cases h4 : p4 = q4
        ·subst h4
         have HE3 := HE2.out rfl
         go_upto_region 6 with fail
         go_region
         all_goals go_wp2_with fail
         all_goals go_roundw
         case rel => exact ⟨k + 1, by go_num, by omega, HE3, HB.out.drew⟩
         case measure => simp [intOf]; omega
        ·have tJ : (p4 == q4) = false := by rw [beq_eq_false_iff_ne]; exact h4
         go_upto_region 6 with fail
         go_region
         all_goals go_wp2_with fail
         all_goals go_ret
         all_goals exact ⟨⟨false, rfl, fun h => by cases h⟩, HB.out.drew⟩
       ·have tJ : (p3 == q3) = false := by rw [beq_eq_false_iff_ne]; exact h3
        go_upto_region 6 with fail
        go_region
        all_goals go_wp2_with fail
        all_goals go_ret
        all_goals exact ⟨⟨false, rfl, fun h => by cases h⟩, HB.out.drew⟩
      ·have tJ : ((p2 : Int) == (q2 : Int)) = false := by rw [beq_eq_false_iff_ne]; exact h2
       go_upto_region 6 with fail
       go_region
       all_goals go_wp2_with fail
       all_goals go_ret
       all_goals exact ⟨⟨false, rfl, fun h => by cases h⟩, HB.out.drew⟩
     ·have tJ : ((p1 : Int) == (q1 : Int)) = false := by rw [beq_eq_false_iff_ne]; exact h1
      go_upto_region 6 with fail
      go_region
      all_goals go_wp2_with fail
      all_goals go_ret
      all_goals exact ⟨⟨false, rfl, fun h => by cases h⟩, HB.out.drew⟩
    ·have tJ : (p0 == q0) = false := by rw [beq_eq_false_iff_ne]; exact h0
     go_upto_region 6 with fail
     go_region
     all_goals go_wp2_with fail
     all_goals go_ret
     all_goals exact ⟨⟨false, rfl, fun h => by cases h⟩, HB.out.drew⟩
   ·have tk : decide ((k : Int) < (P.length : Int)) = false := by rw [decide_eq_false_iff_not]; omega
    have hE : P = Q := by
     have := HE.out
     rw [List.take_of_length_le (by omega), List.take_of_length_le (by omega)] at this
     exact this
    have HE3 : Hid (P = Q) := hE
    clear hE HC HD HE
    go_wp2_with fail
    go_ret
    exact ⟨⟨true, rfl, fun _ => HE3.out⟩, HB.out⟩
 ·have t0 : ((P.length : Int) != (Q.length : Int)) = true := by rw [bne_iff_ne]; omega
  go_enter Tryz.func23, Tryz.ntmps23
  go_wp2_with fail
  go_ret
  exact ⟨⟨false, rfl, fun h => by cases h⟩, Below.refl _ _⟩
end Go.Proofs.YtdgmoiflahoihabGreatDoor
