import Derived.Test.YtdgmoiflahoihabGreatDoorROLw
import Derived.Test.YtdgmoiflahoihabGreatDoorSIMw

namespace Go.Proofs.YtdgmoiflahoihabGreatDoor
open Go.RowKit
set_option linter.unusedSimpArgs false
set_option linter.unusedVariables false
set_option maxRecDepth 100000 in
set_option maxHeartbeats 2000000 in
theorem kSameLines_any (l : List Ln) (ao bo : Option Addr) (g cap g2 cap2 : Nat) (w : World) (hc : LineCells w ao g l) (hd : LineCells w bo g2 l) (hn : l.length ≤ 3000000) :
  Calls Tryz.prog 15 #[.slice ao l.length cap, .slice bo l.length cap2] w fun e w' => e = .returned (.bool true) ∧ Below w.heap.size w w' := by
 have HC : Hid (LineCells w ao g l) := hc
 have HD : Hid (LineCells w bo g2 l) := hd
 clear hc hd
 have t0 : ((l.length : Int) != (l.length : Int)) = false := by simp
 go_enter Tryz.func15, Tryz.ntmps15
 go_wp2_with fail
 go_loopw [5] (fun x w' => ∃ k : Nat, x = .int .i64 k ∧ k ≤ l.length ∧ Hid (Below w.heap.size w w')) (fun x _ => l.length - (intOf x).toNat)
 case atStart => exact ⟨0, rfl, by omega, Below.refl _ _⟩
 case round =>
  obtain ⟨k, rfl, hk, HB⟩ := hrel
  by_cases hlt : k < l.length
  ·have tk : decide ((k : Int) < (l.length : Int)) = true := by simp; omega
   obtain ⟨ea, hg, c0, c1, c2⟩ := HC.out.below HB.out k hlt
   obtain ⟨eb, hg2, d0, d1, d2⟩ := HD.out.below HB.out k hlt
   clear HC HD
   subst ea eb
   generalize l[k] = p at *
   obtain ⟨p0, ⟨p3, p4⟩⟩ := p
   simp only at c0 c1 c2 d0 d1 d2
   go_upto_region 6 with fail
   go_region
   all_goals go_wp2_with fail
   all_goals go_roundw
   case rel => exact ⟨k + 1, by go_num, by omega, HB.out.drew⟩
   case measure => simp [intOf]; omega
  ·have tk : decide ((k : Int) < (l.length : Int)) = false := by simp; omega
   go_wp2_with fail
   go_ret
   exact ⟨rfl, HB.out⟩
def lnsOf (r : Int) : List Nt → List Ln
 | [] => []
 | x :: l => if shownN r x then ⟨x.place, x.val⟩ :: lnsOf r l else lnsOf r l
theorem billB_lns (r : Int) : ∀ l : List Nt, billB r l = linesB (lnsOf r l)
 | [] => rfl
 | x :: l => by
  unfold billB lnsOf
  rw [billB_lns r l]
  split
  ·unfold noteB
   simp [linesB]
  ·rfl
theorem lnsOf_ok (r : Int) : ∀ l : List Nt, (∀ x ∈ l, NtOk x) → (∀ x ∈ lnsOf r l, LnOk x) ∧ (lnsOf r l).length ≤ l.length
 | [], _ => ⟨fun x hx => (by cases hx), Nat.le_refl _⟩
 | x :: l, h => by
  obtain ⟨h1, h2⟩ := lnsOf_ok r l (fun y hy => h y (by simp [hy]))
  have hx := h x (by simp)
  unfold lnsOf
  split
  ·refine ⟨fun y hy => ?_, by simp only [List.length_cons]; omega⟩
   rcases List.mem_cons.mp hy with rfl | hy
   ·have := hx.place
    exact ⟨by simp only; omega, by simp only; omega, hx.val⟩
   ·exact h1 y hy
  ·exact ⟨h1, by simp only [List.length_cons]; omega⟩
theorem lnsOf_app (r : Int) : ∀ (a b : List Nt), lnsOf r (a ++ b) = lnsOf r a ++ lnsOf r b
 | [], b => rfl
 | x :: a, b => by
  simp only [List.cons_append, lnsOf, lnsOf_app r a b]
  split <;> rfl
theorem linesB_len50 : ∀ l : List Ln, (∀ x ∈ l, LnOk x) → (linesB l).length ≤ 50 * l.length
 | [], _ => Nat.le_refl _
 | x :: l, h => by
  have h1 := lineB_len (h x (by simp))
  have h2 := linesB_len50 l (fun y hy => h y (by simp [hy]))
  simp only [linesB, List.length_append, List.length_cons, List.length_nil] at h1 ⊢
  omega
theorem linesB_lenK : ∀ l : List Ln, l.length ≤ (linesB l).length
 | [] => Nat.le_refl _
 | x :: r => by
  have := linesB_lenK r
  simp only [linesB, List.length_append, List.length_cons]
  omega
theorem read_lines (l : List Ln) (hok : ∀ x ∈ l, LnOk x) (hn : l.length ≤ 1500000) (w : World) :
  Calls Tryz.prog 14 #[.string (txt (linesB l))] w fun e w' => ∃ ao g cap, e = .returned (.tuple #[.slice ao l.length cap, .int .i64 0]) ∧ LineCells w' ao g l ∧ Below w.heap.size w w' := by
 have hlen := linesB_len50 l hok
 have h := tariffRead_any (txt (linesB l)) w (by show (linesB l).length ≤ _; omega)
 have e : (txt (linesB l)).data.toList = linesB l := by simp [txt]
 rw [e, readP_some.mpr ⟨rfl, hok⟩] at h
 refine h.mono ?_
 rintro e w' ⟨⟨v, rfl, ho⟩, hb⟩
 obtain ⟨ao, g, cap, rfl, hc⟩ := lines_form ho
 exact ⟨ao, g, cap, rfl, hc, hb⟩
def lastLn : Ln := ⟨400, ⟨-9223372036854775808, 0⟩⟩
theorem lastLn_ok : LnOk lastLn := ⟨by decide, by decide, ⟨by decide, by decide, fun h => absurd rfl h⟩⟩
set_option maxRecDepth 100000 in
set_option maxHeartbeats 8000000 in
theorem round_law (s : ByteArray) (xs : List Int) (c : Int) (zs : List Int) (rd : Int) (af ag : Option Addr) (gf og capf gg ogg capg : Nat) (w : World) (hs : s.size ≤ 1048576) (hc : -9223372036854775808 ≤ c ∧ c ≤ 9223372036854775807) (hrd : -9223372036854775808 ≤ rd ∧ rd ≤ 9223372036854775807) (hg : NumCells w ag gg ogg xs) (hf : NumCells w af gf og zs) (hx : xs.length ≤ 1048576) (hz : zs.length ≤ 9223372036854775807) (hgo : FsOk xs) (hfo : FsOk zs) (ht : TabOk w) :
  Calls Tryz.prog 4 #[.string s, .slice ag xs.length capg, .int .i64 c, .slice af zs.length capf, .int .i64 rd] w fun e w' => e = .returned (.bool true) ∧ Below w.heap.size w w' := by
 obtain ⟨iV, hiV, hzV, hsV, hbV⟩ := parts_of_info infoLine
 obtain ⟨hM0, hMl⟩ := rawLines_ok xs.length xs (Nat.le_refl _) hgo
 have HLI : Hid (∀ w', NumCells w' ag gg ogg xs → Calls Tryz.prog 12 #[.slice ag xs.length capg] w' fun e w'' => (∃ v, e = .returned v ∧ w''.ownsRow w'.heap.size 39 3 v (rawLines xs).length (lnCells (rawLines xs))) ∧ Below w'.heap.size w' w'') := fun w' h => kLines_any xs ag gg ogg capg w' h (by omega) hgo
 generalize rawLines xs = M at *
 have hL0 : ∀ x ∈ M ++ [lastLn], LnOk x := by
  intro x hx
  rcases List.mem_append.mp hx with hx | hx
  ·exact hM0 x hx
  ·rw [List.mem_singleton.mp hx]; exact lastLn_ok
 have hLl : (M ++ [lastLn]).length ≤ 1500000 := by simp; omega
 have HWR : Hid (∀ (ao : Option Addr) (g cap : Nat) (w' : World), LineCells w' ao g (M ++ [lastLn]) → TabOk w' → Calls Tryz.prog 13 #[.slice ao (M ++ [lastLn]).length cap] w' fun e w'' => e = .returned (.string (txt (linesB (M ++ [lastLn])))) ∧ Below w'.heap.size w' w'') := fun ao g cap w' h1 h2 => kWritten_any _ ao g cap w' h1 hLl hL0 h2
 have HRD : Hid (∀ w, Calls Tryz.prog 14 #[.string (txt (linesB (M ++ [lastLn])))] w fun e w' => ∃ ao g cap, e = .returned (.tuple #[.slice ao (M ++ [lastLn]).length cap, .int .i64 0]) ∧ LineCells w' ao g (M ++ [lastLn]) ∧ Below w.heap.size w w') := fun w => read_lines _ hL0 hLl w
 have HSL : Hid (∀ (ao bo : Option Addr) (g cap g2 cap2 : Nat) (w' : World), LineCells w' ao g (M ++ [lastLn]) → LineCells w' bo g2 (M ++ [lastLn]) → Calls Tryz.prog 15 #[.slice ao (M ++ [lastLn]).length cap, .slice bo (M ++ [lastLn]).length cap2] w' fun e w'' => e = .returned (.bool true) ∧ Below w'.heap.size w' w'') := fun ao bo g cap g2 cap2 w' h1 h2 => kSameLines_any _ ao bo g cap g2 cap2 w' h1 h2 (by omega)
 have hp := pickN_lt c (n := 8) (by decide)
 have hr := pickN_lt rd (n := 16) (by decide)
 have HPK : Hid (∀ w, Calls Tryz.prog 5 #[.int .i64 rd, .int .i64 16] w fun e w' => e = .returned (.int .i64 (pickN rd 16 : Nat)) ∧ w' = w) := fun w => pick_any rd 16 hrd (by decide) (by decide) w
 have HSM : Hid (∀ w, Calls Tryz.prog 6 #[.int .i64 c] w fun e w' => e = .returned (.string (smplS (pickN c 8))) ∧ Below w.heap.size w w') := fun w => sample_any c hc w
 obtain ⟨hfine, h4, h400, hnotes⟩ := smpl_notes (smpl_good hp)
 have hT := smplT (pickN c 8)
 have hTs : (smplS (pickN c 8)).size = (smpl (pickN c 8)).length := rfl
 generalize pickN rd 16 = r at *
 generalize smplS (pickN c 8) = T at *
 generalize smpl (pickN c 8) = tl at *
 subst hT
 have f := fineT hfine
 have hcnt : countF (parseH T.data.toList).2 = (hdsL 63 T.data.toList).length := by rw [(hds_eq f.bad).1]; exact (fieldN_len _).symm
 have hnn : (hdsL 63 T.data.toList).length ≤ 1000 := by
  rw [← hcnt]
  have h1 := f.parse.few
  have h2 := List.length_filter_le (fun h : Hd => h.field) (parseH T.data.toList).2
  unfold countF
  omega
 have HHD : Hid (∀ w, Calls Tryz.prog 16 #[.string T, .int .u8 63] w fun e w' => (∃ ao cap, e = .returned (.slice ao (hdsL 63 T.data.toList).length cap)) ∧ Below w.heap.size w w') := fun w => by
  refine (kheads_any T 63 w (by omega)).mono ?_
  rintro e w' ⟨⟨v, rfl, ho⟩, hb⟩
  obtain ⟨ao, g, cap, rfl, _⟩ := nums_form ho
  exact ⟨⟨ao, cap, rfl⟩, hb⟩
 have HF1 : Hid (∀ w', NumCells w' af gf og zs → Calls Tryz.prog 9 #[.slice af zs.length capf, .int .i64 ((hdsL 63 T.data.toList).length : Nat)] w' fun e w'' => e = .returned (.slice (some ⟨w'.heap.size, 0, none⟩) (hdsL 63 T.data.toList).length (hdsL 63 T.data.toList).length) ∧ w''.heap[w'.heap.size]? = some (.cells (numRow (fillN zs (hdsL 63 T.data.toList).length)).toArray 3 (0, 0)) ∧ Below w'.heap.size w' w'') := fun w' h => kfilled_any zs af gf og capf _ w' h (by omega) hz
 have hFl := fillN_len zs (hdsL 63 T.data.toList).length
 have hFo := fillN_ok hfo (hdsL 63 T.data.toList).length
 obtain ⟨N, hN⟩ := hnotes (fillN zs (hdsL 63 T.data.toList).length) (by rw [hFl, hcnt])
 have hk1 := runP_nts T.data.toList (fillN zs (hdsL 63 T.data.toList).length) hFo
 have hf1 := runP_few T.data.toList (fillN zs (hdsL 63 T.data.toList).length) hFo
 have hrun0 : (runP T.data.toList (fillN zs (hdsL 63 T.data.toList).length)).1 = 0 := by
  unfold runP
  rw [if_neg (by rw [hfine]; simp), if_neg (by rw [hFl, hcnt]; simp)]
 have hbill : billP (r : Int) (runP T.data.toList (fillN zs (hdsL 63 T.data.toList).length)) = (0, linesB (lnsOf (r : Int) (runP T.data.toList (fillN zs (hdsL 63 T.data.toList).length)).2)) := by
  unfold billP
  rw [if_neg (by rw [hrun0]; simp), if_neg (by omega), billB_lns]
 obtain ⟨hB0, hBl⟩ := lnsOf_ok (r : Int) _ hk1
 have hBp : 0 < (lnsOf (r : Int) (runP T.data.toList (fillN zs (hdsL 63 T.data.toList).length)).2).length := by
  rw [hN, lnsOf_app]
  have hsh : shownN (r : Int) ⟨0, T.data.toList.length - 4, 0, ⟨7, 0⟩⟩ = true := by
   have := (or_goes (a := 0) (r := r) (by omega) hr).1
   show ((0 : Int) == 0 && (bits .or .i64 ((0 : Nat) : Int) (r : Int) == (r : Int))) = true
   rw [this]
   simp [goesB]
  have e : lnsOf (r : Int) [⟨0, T.data.toList.length - 4, 0, ⟨7, 0⟩⟩] = [⟨((T.data.toList.length - 4 : Nat) : Int), ⟨7, 0⟩⟩] := by
   unfold lnsOf
   rw [if_pos hsh]
   simp [lnsOf]
  rw [e]
  simp
 have HBL : Hid (∀ (b : Nat) (w' : World), NumCells w' (some ⟨b, 0, none⟩) b 0 (fillN zs (hdsL 63 T.data.toList).length) → TabOk w' → Calls Tryz.prog 8 #[.string T, .slice (some ⟨b, 0, none⟩) (hdsL 63 T.data.toList).length (hdsL 63 T.data.toList).length, .int .i64 (r : Int)] w' fun e w'' => e = .returned (.tuple #[.string (txt (linesB (lnsOf (r : Int) (runP T.data.toList (fillN zs (hdsL 63 T.data.toList).length)).2))), .int .i64 0]) ∧ Below w'.heap.size w' w'') := fun b w' h h2 => by
  have := billText_any T (.slice (some ⟨b, 0, none⟩) (hdsL 63 T.data.toList).length (hdsL 63 T.data.toList).length) (r : Int) w' _ (fun w2 e => by
   subst e
   have := progText_any T (fillN zs (hdsL 63 T.data.toList).length) b (hdsL 63 T.data.toList).length _ (by unfold maxLen; omega) h (by unfold maxLen; omega) hFo
   rw [hFl] at this
   exact this) hf1 hk1 h2
  rw [hbill] at this
  exact this
 clear hbill hrun0 hk1 hN hnotes
 generalize (runP T.data.toList (fillN zs (hdsL 63 T.data.toList).length)).2 = RN at *
 generalize lnsOf (r : Int) RN = B at *
 have hBB : B.length ≤ 1500000 := by omega
 have tB : decide ((0 : Int) < (B.length : Int)) = true := by rw [decide_eq_true_iff]; omega
 have HWB : Hid (∀ (ao : Option Addr) (g cap : Nat) (w' : World), LineCells w' ao g B → TabOk w' → Calls Tryz.prog 13 #[.slice ao B.length cap] w' fun e w'' => e = .returned (.string (txt (linesB B))) ∧ Below w'.heap.size w' w'') := fun ao g cap w' h1 h2 => kWritten_any _ ao g cap w' h1 hBB hB0 h2
 have HRB : Hid (∀ w, Calls Tryz.prog 14 #[.string (txt (linesB B))] w fun e w' => ∃ ao g cap, e = .returned (.tuple #[.slice ao B.length cap, .int .i64 0]) ∧ LineCells w' ao g B ∧ Below w.heap.size w w') := fun w => read_lines _ hB0 hBB w
 have HQ : Hid (lnCell lastLn = [.int .i64 400, .int .i64 (-9223372036854775808), .int .i64 0]) := rfl
 have hml : M.length ≤ 1048576 := by omega
 have hme : (M ++ [lastLn]).length = M.length + 1 := by simp
 generalize txt (linesB (M ++ [lastLn])) = TL at *
 generalize txt (linesB B) = TB at *
 generalize fillN zs (hdsL 63 T.data.toList).length = F at *
 generalize (hdsL 63 T.data.toList).length = n at *
 have HX : Hid (NumCells w ag gg ogg xs) := hg
 have HZ : Hid (NumCells w af gf og zs) := hf
 have HT : Hid (TabOk w) := ht
 have m1 : M.length + 1 ≤ maxLen := by unfold maxLen; omega
 have m2 : (M.length + 1) * 24 ≤ 140737488355328 := by omega
 clear hf hg ht hfo hgo hf1 hfine f hFo hcnt hL0 hM0 hB0 hTs h4 h400 hFl
 generalize hLL : M ++ [lastLn] = L at *
 have HLL : Hid (M ++ [lastLn] = L) := hLL
 have HME : Hid (L.length = M.length + 1) := hme
 clear hLL hme
 cases hrs : readP s.data.toList with
 | none =>
  have HR2 : Hid (∀ w, Calls Tryz.prog 14 #[.string s] w fun e w' => e = .returned (.tuple #[.slice none 0 0, .int .i64 10]) ∧ Below w.heap.size w w') := fun w => by
   have := tariffRead_any s w (by omega)
   rw [hrs] at this
   exact this
  clear hrs
  go_enter Tryz.func4, Tryz.ntmps4
  go_wp2_with (first | (go_at_call 13; refine (HWB.out ao13 g13 cap13 w13 HC13.out (HT.out.below HB13.out)).mono ?_; rintro e w14 ⟨rfl, hb14⟩; have HB14 : Hid (Below w.heap.size w w14) := HB13.out.trans (hb14.mono HB13.out.size); clear hb14) | (go_at_call 14; refine (HRB.out w12).mono ?_; rintro e w13 ⟨ao13, g13, cap13, rfl, hc13, hb13⟩; have HC13 : Hid (LineCells w13 ao13 g13 B) := hc13; clear hc13; have HB13 : Hid (Below w.heap.size w w13) := HB12.out.trans (hb13.mono HB12.out.size); clear hb13) | (go_at_call 8; refine (HBL.out bA w10 (numT HA10.out) (HT.out.below HB10.out)).mono ?_; rintro e w12 ⟨rfl, hb12⟩; have HB12 : Hid (Below w.heap.size w w12) := HB10.out.trans (hb12.mono HB10.out.size); clear hb12) | (go_at_call 5; refine (HPK.out _).mono ?_; rintro e wp ⟨rfl, hwp⟩; rw [hwp]; clear hwp) | (go_at_call 9; refine (HF1.out w9 (HZ.out.below HB9.out)).mono ?_; rintro e w10 ⟨rfl, hh10, hb10⟩; generalize hbA : w9.heap.size = bA at *; have HA10 : Hid (w10.heap[bA]? = some (.cells (numRow F).toArray 3 (0, 0))) := hh10; have HB10 : Hid (Below w.heap.size w w10) := HB9.out.trans (hb10.mono (by rw [← hbA]; exact HB9.out.size)); clear hb10 hh10 hbA) | (go_at_call 16; refine (HHD.out w8).mono ?_; rintro e w9 ⟨⟨ao9, cap9, rfl⟩, hb9⟩; have HB9 : Hid (Below w.heap.size w w9) := HB8.out.trans (hb9.mono HB8.out.size); clear hb9) | (go_at_call 6; refine (HSM.out w6).mono ?_; rintro e w8 ⟨rfl, hb8⟩; have HB8 : Hid (Below w.heap.size w w8) := HB7.out.trans (hb8.mono HB7.out.size); clear hb8) | (go_at_call 14; refine (HR2.out w5).mono ?_; rintro e w6 ⟨rfl, hb6⟩; have HB7 : Hid (Below w.heap.size w w6) := HB5.out.trans (hb6.mono HB5.out.size); clear hb6) | (go_at_call 15; refine (HSL.out ao2 ao4 g2 cap2 g4 cap4 w4 HD4.out HC4.out).mono ?_; rintro e w5 ⟨rfl, hb5⟩; have HB5 : Hid (Below w.heap.size w w5) := HB4.out.trans (hb5.mono HB4.out.size); clear hb5) | (go_at_call 14; refine (HRD.out w3).mono ?_; rintro e w4 ⟨ao4, g4, cap4, rfl, hc4, hb4⟩; have HC4 : Hid (LineCells w4 ao4 g4 L) := hc4; have HD4 : Hid (LineCells w4 ao2 g2 L) := HC3.out.below hb4; clear hc4; have HB4 : Hid (Below w.heap.size w w4) := HB3.out.trans (hb4.mono HB3.out.size); clear hb4) | (go_at_call 13; refine (HWR.out ao2 g2 cap2 w2 HC2.out (HT.out.below HB2.out)).mono ?_; rintro e w3 ⟨rfl, hb3⟩; have HC3 : Hid (LineCells w3 ao2 g2 L) := HC2.out.below hb3; have HB3 : Hid (Below w.heap.size w w3) := HB2.out.trans (hb3.mono HB2.out.size); clear hb3) | (at_builtin; refine wpList_append_fresh rfl (.tmp 26) (.tmp 29) 34 rfl w.heap.size 39 iV (.agg #[.int .i64 0, .int .i64 0, .int .i64 0]) 3 24 Tryz.underlying34 hiV hzV hsV hbV rfl (by decide) (.slice ao1 M.length cap1) M.length (lnCells M) (by rfl) (by exact HO1.out.alloc _) ⟨w1.heap.size, 0, none⟩ 1 1 (lnCell lastLn) (by rfl) rfl (by exact three_at _ _ rfl _ _ _ 39) (by intro q hq; simp [lnCell] at hq; rcases hq with rfl | rfl | rfl <;> rfl) m1 m2 (by simp; omega) (by decide) ?_; intro v' w2 hown hgrow hfr; obtain ⟨a1, a2⟩ := lines_append1 HB1.out HO1.out hown hgrow; rw [HLL.out] at a1; clear hfr hgrow hown; obtain ⟨ao2, g2, cap2, rfl, hc2⟩ := lines_form a1; have HC2 : Hid (LineCells w2 ao2 g2 L) := hc2; have HB2 : Hid (Below w.heap.size w w2) := a2; clear a1 a2 hc2) | (go_at_call 12; refine (HLI.out w HX.out).mono ?_; rintro e w1 ⟨⟨v1, rfl, ho1⟩, hb1⟩; obtain ⟨ao1, g1, cap1, rfl, _⟩ := lines_form ho1; have HO1 : Hid (w1.ownsRow w.heap.size 39 3 (.slice ao1 M.length cap1) M.length (lnCells M)) := ho1; have HB1 : Hid (Below w.heap.size w w1) := hb1; have hz1 := hb1.size; clear hb1 ho1))
  go_ret
  exact ⟨rfl, HB14.out⟩
 | some K =>
  obtain ⟨hK1, hK2⟩ := readP_some.mp hrs
  have hKl : K.length ≤ 1500000 := by
   have h1 := linesB_lenK K
   have e : s.data.toList.length = s.size := by simp
   rw [← hK1, e] at h1
   omega
  have hs2 : s = txt (linesB K) := tx_of_list hK1
  have HR2 : Hid (∀ w, Calls Tryz.prog 14 #[.string s] w fun e w' => ∃ ao g cap, e = .returned (.tuple #[.slice ao K.length cap, .int .i64 0]) ∧ LineCells w' ao g K ∧ Below w.heap.size w w') := by rw [hs2]; exact fun w => read_lines _ hK2 hKl w
  have HWK : Hid (∀ (ao : Option Addr) (g cap : Nat) (w' : World), LineCells w' ao g K → TabOk w' → Calls Tryz.prog 13 #[.slice ao K.length cap] w' fun e w'' => e = .returned (.string s) ∧ Below w'.heap.size w' w'') := by rw [hs2]; exact fun ao g cap w' h1 h2 => kWritten_any _ ao g cap w' h1 hKl hK2 h2
  clear hrs hK1 hK2 hs2
  go_enter Tryz.func4, Tryz.ntmps4
  go_wp2_with (first | (go_at_call 13; refine (HWB.out ao13 g13 cap13 w13 HC13.out (HT.out.below HB13.out)).mono ?_; rintro e w14 ⟨rfl, hb14⟩; have HB14 : Hid (Below w.heap.size w w14) := HB13.out.trans (hb14.mono HB13.out.size); clear hb14) | (go_at_call 14; refine (HRB.out w12).mono ?_; rintro e w13 ⟨ao13, g13, cap13, rfl, hc13, hb13⟩; have HC13 : Hid (LineCells w13 ao13 g13 B) := hc13; clear hc13; have HB13 : Hid (Below w.heap.size w w13) := HB12.out.trans (hb13.mono HB12.out.size); clear hb13) | (go_at_call 8; refine (HBL.out bA w10 (numT HA10.out) (HT.out.below HB10.out)).mono ?_; rintro e w12 ⟨rfl, hb12⟩; have HB12 : Hid (Below w.heap.size w w12) := HB10.out.trans (hb12.mono HB10.out.size); clear hb12) | (go_at_call 5; refine (HPK.out _).mono ?_; rintro e wp ⟨rfl, hwp⟩; rw [hwp]; clear hwp) | (go_at_call 9; refine (HF1.out w9 (HZ.out.below HB9.out)).mono ?_; rintro e w10 ⟨rfl, hh10, hb10⟩; generalize hbA : w9.heap.size = bA at *; have HA10 : Hid (w10.heap[bA]? = some (.cells (numRow F).toArray 3 (0, 0))) := hh10; have HB10 : Hid (Below w.heap.size w w10) := HB9.out.trans (hb10.mono (by rw [← hbA]; exact HB9.out.size)); clear hb10 hh10 hbA) | (go_at_call 16; refine (HHD.out w8).mono ?_; rintro e w9 ⟨⟨ao9, cap9, rfl⟩, hb9⟩; have HB9 : Hid (Below w.heap.size w w9) := HB8.out.trans (hb9.mono HB8.out.size); clear hb9) | (go_at_call 6; refine (HSM.out w7).mono ?_; rintro e w8 ⟨rfl, hb8⟩; have HB8 : Hid (Below w.heap.size w w8) := HB7.out.trans (hb8.mono HB7.out.size); clear hb8) | (go_at_call 13; refine (HWK.out ao6 g6 cap6 w6 HC6.out (HT.out.below HB6.out)).mono ?_; rintro e w7 ⟨rfl, hb7⟩; have HB7 : Hid (Below w.heap.size w w7) := HB6.out.trans (hb7.mono HB6.out.size); clear hb7) | (go_at_call 14; refine (HR2.out w5).mono ?_; rintro e w6 ⟨ao6, g6, cap6, rfl, hc6, hb6⟩; have HC6 : Hid (LineCells w6 ao6 g6 K) := hc6; clear hc6; have HB6 : Hid (Below w.heap.size w w6) := HB5.out.trans (hb6.mono HB5.out.size); clear hb6) | (go_at_call 15; refine (HSL.out ao2 ao4 g2 cap2 g4 cap4 w4 HD4.out HC4.out).mono ?_; rintro e w5 ⟨rfl, hb5⟩; have HB5 : Hid (Below w.heap.size w w5) := HB4.out.trans (hb5.mono HB4.out.size); clear hb5) | (go_at_call 14; refine (HRD.out w3).mono ?_; rintro e w4 ⟨ao4, g4, cap4, rfl, hc4, hb4⟩; have HC4 : Hid (LineCells w4 ao4 g4 L) := hc4; have HD4 : Hid (LineCells w4 ao2 g2 L) := HC3.out.below hb4; clear hc4; have HB4 : Hid (Below w.heap.size w w4) := HB3.out.trans (hb4.mono HB3.out.size); clear hb4) | (go_at_call 13; refine (HWR.out ao2 g2 cap2 w2 HC2.out (HT.out.below HB2.out)).mono ?_; rintro e w3 ⟨rfl, hb3⟩; have HC3 : Hid (LineCells w3 ao2 g2 L) := HC2.out.below hb3; have HB3 : Hid (Below w.heap.size w w3) := HB2.out.trans (hb3.mono HB2.out.size); clear hb3) | (at_builtin; refine wpList_append_fresh rfl (.tmp 26) (.tmp 29) 34 rfl w.heap.size 39 iV (.agg #[.int .i64 0, .int .i64 0, .int .i64 0]) 3 24 Tryz.underlying34 hiV hzV hsV hbV rfl (by decide) (.slice ao1 M.length cap1) M.length (lnCells M) (by rfl) (by exact HO1.out.alloc _) ⟨w1.heap.size, 0, none⟩ 1 1 (lnCell lastLn) (by rfl) rfl (by exact three_at _ _ rfl _ _ _ 39) (by intro q hq; simp [lnCell] at hq; rcases hq with rfl | rfl | rfl <;> rfl) m1 m2 (by simp; omega) (by decide) ?_; intro v' w2 hown hgrow hfr; obtain ⟨a1, a2⟩ := lines_append1 HB1.out HO1.out hown hgrow; rw [HLL.out] at a1; clear hfr hgrow hown; obtain ⟨ao2, g2, cap2, rfl, hc2⟩ := lines_form a1; have HC2 : Hid (LineCells w2 ao2 g2 L) := hc2; have HB2 : Hid (Below w.heap.size w w2) := a2; clear a1 a2 hc2) | (go_at_call 12; refine (HLI.out w HX.out).mono ?_; rintro e w1 ⟨⟨v1, rfl, ho1⟩, hb1⟩; obtain ⟨ao1, g1, cap1, rfl, _⟩ := lines_form ho1; have HO1 : Hid (w1.ownsRow w.heap.size 39 3 (.slice ao1 M.length cap1) M.length (lnCells M)) := ho1; have HB1 : Hid (Below w.heap.size w w1) := hb1; have hz1 := hb1.size; clear hb1 ho1))
  go_ret
  exact ⟨rfl, HB14.out⟩
end Go.Proofs.YtdgmoiflahoihabGreatDoor
