import Derived.Test.YtdgmoiflahoihabLSOw
import Derived.Deep.Upon

namespace Go.Proofs.Ytdgmoiflahoihab
open Go.RowKit
set_option linter.unusedSimpArgs false
set_option linter.unusedVariables false
theorem and_not : ∀ L : Nat, L < 16 → ∀ k : Nat, k < 4 → L.testBit k = true → bits .andNot .i64 (L : Int) (wrap64 (2 ^ k)) = ((L - 2 ^ k : Nat) : Int) := by decide +kernel
theorem check_list (l : List UInt8) (w : World) (hl : l.length ≤ 400) (a b : Int) (h : checkP l = (a, b)) :
  Calls Try.prog 12 #[.string ⟨l.toArray⟩] w fun e w' => e = .returned (.tuple #[.int .i64 a, .int .i64 b]) ∧ Below w.heap.size w w' := by
 have hsz : (⟨l.toArray⟩ : ByteArray).size = l.length := rfl
 have := tariffCheck_any ⟨l.toArray⟩ w (by rw [hsz]; unfold maxLen; omega) (fun h hb => parse_ok (by simpa using hl) hb)
 simp only [List.toList_toArray] at this
 rw [h] at this
 exact this
theorem labels_list (l : List UInt8) (w : World) (hl : l.length ≤ 400) (R : List Nat) (h : (checkP l).1 = 0) (hR : labsP l = R) :
  Calls Try.prog 16 #[.string ⟨l.toArray⟩] w fun e w' => e = .returned (.tuple #[.agg (arrV R), .int .i64 0]) ∧ Below w.heap.size w w' := by
 have hsz : (⟨l.toArray⟩ : ByteArray).size = l.length := rfl
 exact progLabels_any ⟨l.toArray⟩ w 0 R (by rw [hsz]; unfold maxLen; omega) h hR
theorem BoxAt.drewN {w : World} {B : Nat} {of : List Nat} (h : BoxAt w B of) (n : Nat) : BoxAt (w.drewN n) B of := h
theorem low_drewN {w w' : World} {B : Nat} (h : Below B w w') (n : Nat) : Below B w (w'.drewN n) := h.trans ⟨rfl, rfl, rfl, Nat.le_refl _, fun _ _ => rfl⟩
def LessOk (t : List UInt8) (R : List Nat) : Prop := ∀ i, i < 26 → ∀ k, k < 4 → (standP t).testBit i = false → (R.getD i 0).testBit k = true → (declP t (R.set i (R.getD i 0 - 2 ^ k))).length ≤ 400 ∧ (checkP (declP t (R.set i (R.getD i 0 - 2 ^ k)))).1 = 5
set_option maxRecDepth 100000 in
set_option maxHeartbeats 4000000 in
theorem least_any (s : ByteArray) (w : World) (hc : (checkP s.data.toList).1 = 0) :
  Calls Try.prog 13 #[.string s] w fun e w' => e = .returned (.bool true) ∧ Below w.heap.size w w' := by
 have f := fineT hc
 have hs : s.size ≤ 400 := by have := f.len; simpa using this
 obtain ⟨hRl, hR16, hr3⟩ := labs_fine hc
 clear hr3
 have HL1 : Hid (∀ w, Calls Try.prog 16 #[.string s] w fun x w' => x = .returned (.tuple #[.agg (arrV (labsP s.data.toList)), .int .i64 0]) ∧ Below w.heap.size w w') := fun w => progLabels_any s w 0 _ (by unfold maxLen; omega) hc rfl
 have HDC : Hid (∀ (S : List Nat) (w : World), S.length = 26 → (∀ i, S.getD i 0 < 16) → Calls Try.prog 18 #[.string s, .agg (arrV S)] w fun e w' => e = .returned (.string ⟨(declP s.data.toList S).toArray⟩) ∧ Below w.heap.size w w') := fun S w h1 h2 => declared_any s S w (by omega) h1 h2
 have HST : Hid (∀ w, Calls Try.prog 19 #[.string s] w fun e w' => e = .returned (.int .i64 (standP s.data.toList : Nat)) ∧ Below w.heap.size w w') := fun w => standing_any s w (by omega)
 have HF : Hid ((declP s.data.toList (labsP s.data.toList)).length ≤ 400 → checkP (declP s.data.toList (labsP s.data.toList)) = (0, 0) ∧ labsP (declP s.data.toList (labsP s.data.toList)) = labsP s.data.toList) := fun hl => least_full hc hl
 have HLS : Hid ((declP s.data.toList (labsP s.data.toList)).length ≤ 400 → LessOk s.data.toList (labsP s.data.toList)) := fun hl i hi k hk h1 h2 => least_less hc hl hi hk h1 h2
 have hst := standP_lt s.data.toList
 have heq := arr_self hRl
 have hsz : (arrV (labsP s.data.toList)).size = 26 := by simp [arrV, hRl]
 generalize labsP s.data.toList = R at *
 have HR16 : Hid (∀ i, R.getD i 0 < 16) := hR16
 have HD1 : Hid (∀ w, Calls Try.prog 18 #[.string s, .agg (arrV R)] w fun e w' => e = .returned (.string ⟨(declP s.data.toList R).toArray⟩) ∧ Below w.heap.size w w') := fun w => HDC.out R w hRl hR16
 clear hR16
 by_cases hlen : (declP s.data.toList R).length ≤ 400
 ·obtain ⟨hf1, hf2⟩ := HF.out hlen
  have HC1 : Hid (∀ w, Calls Try.prog 12 #[.string ⟨(declP s.data.toList R).toArray⟩] w fun e w' => e = .returned (.tuple #[.int .i64 0, .int .i64 0]) ∧ Below w.heap.size w w') := fun w => check_list _ w hlen 0 0 hf1
  have HL2 : Hid (∀ w, Calls Try.prog 16 #[.string ⟨(declP s.data.toList R).toArray⟩] w fun e w' => e = .returned (.tuple #[.agg (arrV R), .int .i64 0]) ∧ Below w.heap.size w w') := fun w => labels_list _ w hlen R (by rw [hf1]) hf2
  have HLO : Hid (LessOk s.data.toList R) := HLS.out hlen
  have hbs : (⟨(declP s.data.toList R).toArray⟩ : ByteArray).size ≤ 400 := hlen
  clear hf1 hf2 HF HLS hlen hc f
  generalize hDD : (⟨(declP s.data.toList R).toArray⟩ : ByteArray) = DD at *
  clear hDD
  have t400 : decide ((400 : Int) < (DD.size : Int)) = false := by rw [decide_eq_false_iff_not]; omega
  go_enter Try.func13, Try.ntmps13
  go_upto_region 2 with (first | (go_at_call 16; refine (HL1.out _).mono ?_; rintro x1 w1 ⟨rfl, hb1⟩) | (refine wpList_store_row rfl 46 (.tmp 3) (.tmp 19) rfl w1.heap.size (arrV R) rfl rfl 46 (arrV zero26) (by exact box_zero w1) (by rw [infoArr, hsz]) (by rw [hsz]; rfl) (arr_one R) ?_; rw [World.setRow_alloc_new]; simp only [Act.put]))
  have hX := BoxAt.new w1 R
  have hB : Below w.heap.size w (w1.alloc (.cells (arrV R) 46)) := hb1.alloc hb1.size _
  have hs1 := hb1.size
  generalize w1.alloc (.cells (arrV R) 46) = W1 at *
  generalize w1.heap.size = b3 at *
  have HX1 : Hid (BoxAt W1 b3 R) := hX
  have HB1 : Hid (Below w.heap.size w W1) := hB
  clear hX hB hb1
  go_upto_region 9 with (first | (go_at_call 18; refine (HD1.out _).mono ?_; rintro x2 w2 ⟨rfl, hb2⟩; have HX2 : Hid (BoxAt w2 b3 R) := HX1.out.below hb2; have HB2 : Hid (Below w.heap.size w w2) := HB1.out.trans (hb2.mono HB1.out.size); clear hb2) | (go_at_call 12; refine (HC1.out _).mono ?_; rintro x3 w3 ⟨rfl, hb3⟩; have HX3 : Hid (BoxAt w3 b3 R) := HX2.out.below hb3; have HB3 : Hid (Below w.heap.size w w3) := HB2.out.trans (hb3.mono HB2.out.size); clear hb3) | (go_at_call 16; refine (HL2.out _).mono ?_; rintro x4 w4 ⟨rfl, hb4⟩; have HX4 : Hid (BoxAt w4 b3 R) := HX3.out.below hb4; have HB4 : Hid (Below w.heap.size w w4) := HB3.out.trans (hb4.mono HB3.out.size); clear hb4) | (refine wpList_load_row rfl 46 (.tmp 3) rfl b3 rfl 46 (arrV R) (0, 0) _ HX1.out Try.underlying46 rfl (by rw [infoArr, hsz]) ?_) | (refine wpList_store_row rfl 46 (.tmp 8) (.tmp 37) rfl w4.heap.size (arrV R) rfl rfl 46 (arrV zero26) (by exact box_zero w4) (by rw [infoArr, hsz]) (by rw [hsz]; rfl) (arr_one R) ?_; rw [World.setRow_alloc_new]; simp only [Act.put]))
  have hX := BoxAt.new w4 R
  have hnew : Below w4.heap.size w4 (w4.alloc (.cells (arrV R) 46)) := (Below.refl _ _).alloc (Nat.le_refl _) _
  have hX3 := HX4.out.below hnew
  have hB5 : Below w.heap.size w (w4.alloc (.cells (arrV R) 46)) := HB4.out.alloc HB4.out.size _
  generalize w4.alloc (.cells (arrV R) 46) = W4 at *
  have HXa : Hid (BoxAt W4 w4.heap.size R) := hX
  have HXb : Hid (BoxAt W4 b3 R) := hX3
  have HBw : Hid (Below w.heap.size w W4) := hB5
  clear hX hX3 hB5 hnew HX4 HB4 HX1 HX2 HX3 HB1 HB2 HB3
  go_upto_region 12 with (first | (refine wpList_wanted (by rfl) fun K hK => wp_load_row 46 (.tmp 8) rfl w4.heap.size rfl 46 (arrV R) (0, 0) _ HXa.out Try.underlying46 rfl (by rw [infoArr, hsz]) (hK _ _ ?_); simp only [Act.put]) | (refine wpList_wanted (by rfl) fun K hK => wp_load_row 46 (.tmp 3) rfl b3 rfl 46 (arrV R) (0, 0) _ HXb.out Try.underlying46 rfl (by rw [infoArr, hsz]) (hK _ _ ?_); simp only [Act.put]) | (go_at_call 19; refine (HST.out _).mono ?_; rintro x5 w5 ⟨rfl, hb5⟩; have HX5 : Hid (BoxAt w5 b3 R) := HXb.out.below hb5; have HB5 : Hid (Below w.heap.size w w5) := HBw.out.trans (hb5.mono HBw.out.size); clear hb5))
  clear HXa HXb HBw HC1 HL1 HL2 HD1 HST heq hs1
  generalize hST : standP s.data.toList = st at *
  have HSTP : Hid (standP s.data.toList = st) := hST
  clear hST
  go_wp2_with fail
  go_loopw [11] (fun x w' => ∃ i : Nat, x = .int .i64 i ∧ i ≤ 26 ∧ Hid (BoxAt w' b3 R) ∧ Hid (Below w.heap.size w w')) (fun x _ => 26 - (intOf x).toNat)
  case atStart => exact ⟨0, rfl, by omega, HX5, HB5⟩
  case round =>
   obtain ⟨i, rfl, hi, HXi, HBi⟩ := hrel
   by_cases hlt : i < 26
   ·have t26 : decide ((i : Int) < 26) = true := by rw [decide_eq_true_iff]; omega
    go_wp2_with fail
    go_loopw [12] (fun x w' => ∃ k : Nat, x = .int .i64 k ∧ k ≤ 4 ∧ Hid (BoxAt w' b3 R) ∧ Hid (Below w.heap.size w w')) (fun x _ => 4 - (intOf x).toNat)
    case atStart => exact ⟨0, rfl, by omega, HXi, HBi⟩
    case round =>
     obtain ⟨k, rfl, hk, HXk, HBk⟩ := hrel
     by_cases hlk : k < 4
     ·have hap := lsand_pow st i hst (by omega)
      cases hb : st.testBit i
      ·have tb : (bits .and .i64 (st : Int) (wrap64 (2 ^ i)) != 0) = false := by rw [hap, (and_bit st i).mpr hb]; rfl
       have hcell := HXk.out.cell i (by rw [hRl]; exact hlt)
       have hL := HR16.out i
       have hap2 := lsand_pow (R.getD i 0) k (by omega) (by omega)
       cases hb2 : (R.getD i 0).testBit k
       ·have tl : (bits .and .i64 ((R.getD i 0 : Nat) : Int) (wrap64 (2 ^ k)) == 0) = true := by rw [hap2, (and_bit _ k).mpr hb2]; rfl
        clear hap hap2 hb hb2
        generalize R.getD i 0 = L at *
        go_upto_region 18 with fail
        go_quiet (fail)
        go_wp2_with fail
        exact ⟨⟨k + 1, by go_num, by omega, HXk.out.drewN _, low_drewN HBk.out _⟩, by simp [intOf]; omega⟩
       ·have tl : (bits .and .i64 ((R.getD i 0 : Nat) : Int) (wrap64 (2 ^ k)) == 0) = false := by
         rw [hap2]
         have : ¬ (R.getD i 0 &&& 2 ^ k = 0) := fun e => by rw [(and_bit _ k).mp e] at hb2; cases hb2
         rw [beq_eq_false_iff_ne]
         omega
        have han := and_not (R.getD i 0) hL k hlk hb2
        obtain ⟨hl1, hl2⟩ := HLO.out i hlt k hlk (by rw [HSTP.out]; exact hb) hb2
        have h16' : ∀ j, (R.set i (R.getD i 0 - 2 ^ k)).getD j 0 < 16 := by
         intro j
         by_cases e : i = j
         ·subst e
          rw [List.getD_eq_getElem?_getD, List.getElem?_set_self (by omega)]
          exact Nat.lt_of_le_of_lt (Nat.sub_le _ _) hL
         ·rw [List.getD_eq_getElem?_getD, List.getElem?_set_ne e, ← List.getD_eq_getElem?_getD]
          exact HR16.out j
        have HD2 : Hid (∀ w, Calls Try.prog 18 #[.string s, .agg (arrV (R.set i (R.getD i 0 - 2 ^ k)))] w fun e w' => e = .returned (.string ⟨(declP s.data.toList (R.set i (R.getD i 0 - 2 ^ k))).toArray⟩) ∧ Below w.heap.size w w') := fun w => HDC.out _ w (by rw [List.length_set]; exact hRl) h16'
        generalize hcp : checkP (declP s.data.toList (R.set i (R.getD i 0 - 2 ^ k))) = cp at hl2
        obtain ⟨c5, cpl⟩ := cp
        simp only at hl2
        subst hl2
        have HC2 : Hid (∀ w, Calls Try.prog 12 #[.string ⟨(declP s.data.toList (R.set i (R.getD i 0 - 2 ^ k))).toArray⟩] w fun e w' => e = .returned (.tuple #[.int .i64 5, .int .i64 cpl]) ∧ Below w.heap.size w w') := fun w => check_list _ w hl1 5 cpl hcp
        generalize (⟨(declP s.data.toList (R.set i (R.getD i 0 - 2 ^ k))).toArray⟩ : ByteArray) = D2 at HD2 HC2
        have hsz2 : (arrV (R.set i (R.getD i 0 - 2 ^ k))).size = 26 := by simp [arrV, hRl]
        have HSET : Hid (∀ (W : World) (B : Nat), BoxAt W B R → BoxAt (W.setCell ⟨B, i, none⟩ (.int .i64 ((R.getD i 0 - 2 ^ k : Nat) : Int))) B (R.set i (R.getD i 0 - 2 ^ k))) := fun W B h => h.set i _
        generalize R.set i (R.getD i 0 - 2 ^ k) = R2 at *
        have hcl : ∀ (W : World) (B : Nat), BoxAt W B R → W.cell? ⟨B, i, none⟩ = some (.int .i64 (R.getD i 0 : Nat)) := fun W B h => h.cell i (by rw [hRl]; exact hlt)
        have HCL : Hid (∀ (W : World) (B : Nat), BoxAt W B R → W.cell? ⟨B, i, none⟩ = some (.int .i64 (R.getD i 0 : Nat))) := hcl
        generalize hLL : R.getD i 0 = L at *
        clear hLL hap hap2 hb hb2 hl1 hcp h16' hcl
        have hpw : 2 ^ k ≤ 8 := by
         have : k = 0 ∨ k = 1 ∨ k = 2 ∨ k = 3 := by omega
         rcases this with rfl | rfl | rfl | rfl <;> decide
        generalize hnn : (L - 2 ^ k : Nat) = LL at *
        clear hnn hpw
        go_upto_region 18 with fail
        go_quiet (fail)
        have hXq := HXk.out.drewN nq
        have hBq := low_drewN HBk.out nq
        generalize wr.drewN nq = Wq at *
        have HXq : Hid (BoxAt Wq b3 R) := hXq
        have HBq : Hid (Below w.heap.size w Wq) := hBq
        clear hXq hBq hcell
        go_upto_region 20 with (first | (refine wpList_load_row rfl 46 (.tmp 3) rfl b3 rfl 46 (arrV R) (0, 0) _ HXq.out Try.underlying46 rfl (by rw [infoArr, hsz]) ?_) | (refine wpList_store_row rfl 46 (.tmp 13) (.tmp 78) rfl Wq.heap.size (arrV R) rfl rfl 46 (arrV zero26) (by exact box_zero Wq) (by rw [infoArr, hsz]) (by rw [hsz]; rfl) (arr_one R) ?_; rw [World.setRow_alloc_new]; simp only [Act.put]))
        have hXn := BoxAt.new Wq R
        have hnew : Below Wq.heap.size Wq (Wq.alloc (.cells (arrV R) 46)) := (Below.refl _ _).alloc (Nat.le_refl _) _
        have hX3 := HXq.out.below hnew
        have hlt3 := HXq.out.lt
        have hB6 : Below w.heap.size w (Wq.alloc (.cells (arrV R) 46)) := HBq.out.alloc HBq.out.size _
        have hqs := HBq.out.size
        generalize Wq.alloc (.cells (arrV R) 46) = W6 at *
        generalize Wq.heap.size = bn at *
        have q1 := HCL.out W6 b3 hX3
        have q2 := HCL.out W6 bn hXn
        have qf := hXn.frozen
        have hne : ¬ b3 = bn := by omega
        have HS6 : Hid (BoxAt (W6.setCell ⟨bn, i, none⟩ (.int .i64 (LL : Int))) bn R2) := HSET.out W6 bn hXn
        have HX6 : Hid (BoxAt (W6.setCell ⟨bn, i, none⟩ (.int .i64 (LL : Int))) b3 R) := by
         show BoxAt _ _ _
         unfold BoxAt
         rw [Below.heap_setCell _ _ _ _ hne]
         exact hX3
        have HB7 : Hid (Below w.heap.size w (W6.setCell ⟨bn, i, none⟩ (.int .i64 (LL : Int)))) := hB6.setCell hqs _
        clear hXn hX3 hB6 hnew HXq HBq
        go_cut [79] from 80 to 95 (fun x wx => ∃ n, wx = (W6.setCell ⟨bn, i, none⟩ (.int .i64 (LL : Int))).drewN n)
        case first =>
         go_region
         all_goals go_wp2_with fail
         all_goals go_meet
         all_goals exact ⟨1, rfl⟩
        case rest =>
        obtain ⟨n7, rfl⟩ := hcut
        have hS7 := HS6.out.drewN n7
        have hX7 := HX6.out.drewN n7
        have hB8 := low_drewN HB7.out n7
        clear HS6 HX6 HB7 q1 q2 qf
        generalize (W6.setCell ⟨bn, i, none⟩ (.int .i64 (LL : Int))).drewN n7 = W7 at *
        have HS7 : Hid (BoxAt W7 bn R2) := hS7
        have HX7 : Hid (BoxAt W7 b3 R) := hX7
        have HB8 : Hid (Below w.heap.size w W7) := hB8
        clear hS7 hX7 hB8
        go_wp2_with (first | (refine wpList_load_row rfl 46 (.tmp 13) rfl bn rfl 46 (arrV R2) (0, 0) _ HS7.out Try.underlying46 rfl (by rw [infoArr, hsz2]) ?_) | (go_at_call 18; refine (HD2.out _).mono ?_; rintro x8 w8 ⟨rfl, hb8⟩; have HX8 : Hid (BoxAt w8 b3 R) := HX7.out.below hb8; have HB9 : Hid (Below w.heap.size w w8) := HB8.out.trans (hb8.mono HB8.out.size); clear hb8) | (go_at_call 12; refine (HC2.out _).mono ?_; rintro x9 w9 ⟨rfl, hb9⟩; have HX9 : Hid (BoxAt w9 b3 R) := HX8.out.below hb9; have HBa : Hid (Below w.heap.size w w9) := HB9.out.trans (hb9.mono HB9.out.size); clear hb9))
        go_roundw
        case rel => exact ⟨k + 1, by go_num, by omega, HX9, HBa⟩
        case measure => simp [intOf]; omega
      ·have tb : (bits .and .i64 (st : Int) (wrap64 (2 ^ i)) != 0) = true := by
        rw [hap]
        have : ¬ (st &&& 2 ^ i = 0) := fun e => by rw [(and_bit st i).mp e] at hb; cases hb
        simp only [bne_iff_ne, ne_eq]
        omega
       clear hap hb
       go_upto_region 18 with fail
       go_quiet (fail)
       go_wp2_with fail
       exact ⟨⟨k + 1, by go_num, by omega, HXk.out.drewN _, low_drewN HBk.out _⟩, by simp [intOf]; omega⟩
     ·go_wp2_with fail
      go_roundw
      case rel => exact ⟨i + 1, by go_num, by omega, HXk, HBk⟩
      case measure => simp [intOf]; omega
   ·go_wp2_with fail
    go_ret
    exact ⟨rfl, HBi.out⟩
 ·have hbs : 400 < (⟨(declP s.data.toList R).toArray⟩ : ByteArray).size := by show 400 < (declP s.data.toList R).length; omega
  clear HF HLS hlen hc f HDC HST
  generalize hDD : (⟨(declP s.data.toList R).toArray⟩ : ByteArray) = DD at *
  clear hDD
  have t400 : decide ((400 : Int) < (DD.size : Int)) = true := by rw [decide_eq_true_iff]; omega
  go_enter Try.func13, Try.ntmps13
  go_upto_region 2 with (first | (go_at_call 16; refine (HL1.out _).mono ?_; rintro x1 w1 ⟨rfl, hb1⟩) | (refine wpList_store_row rfl 46 (.tmp 3) (.tmp 19) rfl w1.heap.size (arrV R) rfl rfl 46 (arrV zero26) (by exact box_zero w1) (by rw [infoArr, hsz]) (by rw [hsz]; rfl) (arr_one R) ?_; rw [World.setRow_alloc_new]; simp only [Act.put]))
  have hX := BoxAt.new w1 R
  have hB : Below w.heap.size w (w1.alloc (.cells (arrV R) 46)) := hb1.alloc hb1.size _
  generalize w1.alloc (.cells (arrV R) 46) = W1 at *
  generalize w1.heap.size = b3 at *
  have HX1 : Hid (BoxAt W1 b3 R) := hX
  have HB1 : Hid (Below w.heap.size w W1) := hB
  clear hX hB hb1
  go_wp2_with (first | (go_at_call 18; refine (HD1.out _).mono ?_; rintro x2 w2 ⟨rfl, hb2⟩; have HB2 : Hid (Below w.heap.size w w2) := HB1.out.trans (hb2.mono HB1.out.size); clear hb2) | (refine wpList_load_row rfl 46 (.tmp 3) rfl b3 rfl 46 (arrV R) (0, 0) _ HX1.out Try.underlying46 rfl (by rw [infoArr, hsz]) ?_))
  go_ret
  exact ⟨rfl, HB2.out⟩
end Go.Proofs.Ytdgmoiflahoihab
