import Derived.Test.YtdgmoiflahoihaaGreatDoorCReadw
import Derived.Laws.Rows

namespace Go.Proofs.YtdgmoiflahoihaaGreatDoor
open Go.RowKit
set_option linter.unusedSimpArgs false
set_option linter.unusedVariables false
def BoxAt (w : World) (B : Nat) (of : List Nat) : Prop := w.heap[B]? = some (.cells (arrV of) 69 (0, 0))
theorem BoxAt.lt {w : World} {B : Nat} {of : List Nat} (h : BoxAt w B of) : B < w.heap.size := by
 unfold BoxAt at h
 exact (Array.getElem?_eq_some_iff.mp h).1
theorem BoxAt.below {w w' : World} {B : Nat} {of : List Nat} (h : BoxAt w B of) (hb : Below w.heap.size w w') : BoxAt w' B of := by
 have := hb.block B h.lt
 unfold BoxAt at *
 rw [this, h]
theorem BoxAt.new (w : World) (of : List Nat) : BoxAt (w.alloc (.cells (arrV of) 69)) w.heap.size of := by
 unfold BoxAt
 show (w.heap.push _)[w.heap.size]? = _
 simp
theorem BoxAt.cell {w : World} {B : Nat} {of : List Nat} (h : BoxAt w B of) (k : Nat) (hk : k < of.length) : w.cell? ⟨B, k, none⟩ = some (.int .i64 (of.getD k 0 : Nat)) := by
 rw [cell_of_row w B k _ _ _ h]
 simp [arrV, natV, hk]
theorem infoArr : (Tryz.prog.info? 69).map (fun i => i.size) = some 26 := by kernel_rfl
theorem getD_lt {of : List Nat} (h : ∀ x ∈ of, x < 16) (k : Nat) : of.getD k 0 < 16 := by
 rw [List.getD_eq_getElem?_getD]
 cases e : of[k]? with
 | none => simp
 | some x => exact h x (List.mem_of_getElem? e)
set_option maxRecDepth 100000 in
set_option maxHeartbeats 2000000 in
theorem dirty_any (F : Nat) : ∀ (b lo hi g : Nat) (r : Int) (C : List UInt8) (A : List Int) (of : List Nat) (w : World) (hb : BookAt w b C A) (hof : of.length = 26) (h16 : ∀ x ∈ of, x < 16) (hg : g < 2 ^ 26) (ho : dirtyF C A of F lo hi g = some r) (hlo : lo ≤ 500) (hhi : hi ≤ 500),
  Calls Tryz.prog 75 #[.pointer (some ⟨b, 0, none⟩), .agg (arrV of), .int .i64 lo, .int .i64 hi, .int .i64 g] w fun x w' => x = .returned (.int .i64 r) ∧ Below w.heap.size w w' := by
 induction F using Nat.strongRecOn with
 | ind F ih =>
 intro b lo hi g r C A of w hb hof h16 hg ho hlo hhi
 have IH : Hid (∀ m, m < F → _) := ih
 have HB : Hid (BookAt w b C A) := hb
 have HOF : Hid (of.length = 26) := hof
 have HO : Hid (dirtyF C A of F lo hi g = some r) := ho
 have hC := hb.small
 have hsz : (arrV of).size = 26 := by simp [arrV, hof]
 clear ih hb ho hof
 go_enter Tryz.func75, Tryz.ntmps75
 go_wp2
 go_loopw [11] (fun x w' => ∃ (k f : Nat), x = .int .i64 k ∧ k ≤ 500 ∧ f ≤ F ∧ BookAt w' b C A ∧ BoxAt w' w.heap.size of ∧ Below w.heap.size w w' ∧ Hid (dirtyF C A of f k hi g = some r)) (fun x w' => 500 - (intOf x).toNat)
 case atStart => exact ⟨lo, F, rfl, hlo, Nat.le_refl _, HB.out.below ((Below.refl _ _).alloc (Nat.le_refl _) _), BoxAt.new w of, (Below.refl _ _).alloc (Nat.le_refl _) _, HO⟩
 case round =>
  obtain ⟨k, f, rfl, hk, hf, hbk, hbx, hbl, HD⟩ := hrel
  by_cases hlt : k < hi
  ·obtain ⟨f', ⟨name, label, elo, ehi⟩, t, o, ok, rfl, hre, hbs, hov, hel, heh, hcl, hno, hyes⟩ := dirty_step HD.out hlt
   have hkl := over_lt hov
   have hog := over_gt hov
   have hol := over_le hov
   have HCL : Hid _ := hcl hkl
   have HE : Hid (restC C k = some ⟨name, label, elo, ehi⟩) := hre
   have HT : Hid (blocksC C k = some t) := hbs
   have HV : Hid (overC C k = some o) := hov
   have HNO : Hid (ok = false → A[k]? = some r) := hno
   have HY : Hid (ok = true → _) := hyes
   have HBK : Hid (BookAt wr b C A) := hbk
   have HBX : Hid (BoxAt wr w.heap.size of) := hbx
   have hnl := namesC_lt C elo ehi
   obtain ⟨b1, b2, b3, b4⟩ := blocks_le hbs hC
   clear hcl hre hbs hov hno hyes hbk hbx
   simp only at hel heh HY HCL
   generalize hin : namesC C elo ehi = inn at *
   have HIN : Hid (namesC C elo ehi = inn) := hin
   clear hin
   go_upto_region 6 with (first | (go_at_call 79; refine (rest_any b k ⟨name, label, elo, ehi⟩ C A _ HBK.out HE.out).mono ?_; rintro x1 w' ⟨rfl, rfl⟩) | (go_at_call 109; refine (names_any b elo ehi C A _ HBK.out hel heh).mono ?_; rintro x1 w' ⟨rfl, rfl⟩; rw [HIN.out]))
   have hE := togC_lt (of := of) inn h16
   have hG := togC_lt (of := of) g h16
   generalize hEe : togC of inn = E at *
   generalize hGe : togC of g = G at *
   have HEe : Hid (togC of inn = E) := hEe
   have HGe : Hid (togC of g = G) := hGe
   clear hEe hGe
   go_cut [17] from 26 to 123 (fun x wx => x = .int .i64 E ∧ BookAt wx b C A ∧ BoxAt wx w.heap.size of ∧ Below w.heap.size w wx)
   case first =>
    go_wp2_with (first | (refine wpList_load_row rfl 69 (.tmp 6) rfl w.heap.size rfl 69 (arrV of) (0, 0) _ HBX.out Tryz.underlying69 rfl (by rw [infoArr, hsz]) ?_) | (go_at_call 110; refine (together_any of _ _ HOF.out h16 (by assumption)).mono ?_; rintro x1 w1 ⟨rfl, rfl⟩))
    rw [HEe.out]
    go_wp2_with fail
    go_meet
    have hnew : Below w'.heap.size w' (w'.alloc (.cells (arrV of) 69)) := (Below.refl _ _).alloc (Nat.le_refl _) _
    exact ⟨rfl, HBK.out.below hnew, HBX.out.below hnew, hbl.trans (hnew.mono (by have := hbl.size; omega))⟩
   case rest =>
   obtain ⟨rfl, hbk1, hbx1, hbl1⟩ := hcut
   clear HBK HBX hbl
   have HBK : Hid (BookAt wc b C A) := hbk1
   have HBX : Hid (BoxAt wc w.heap.size of) := hbx1
   clear hbk1 hbx1
   go_upto_region 7 with fail
   go_cut [18] from 26 to 123 (fun x wx => x = .int .i64 G ∧ BookAt wx b C A ∧ BoxAt wx w.heap.size of ∧ Below w.heap.size w wx)
   case first =>
    go_wp2_with (first | (refine wpList_load_row rfl 69 (.tmp 6) rfl w.heap.size rfl 69 (arrV of) (0, 0) _ HBX.out Tryz.underlying69 rfl (by rw [infoArr, hsz]) ?_) | (go_at_call 110; refine (together_any of _ _ HOF.out h16 (by assumption)).mono ?_; rintro x1 w1 ⟨rfl, rfl⟩))
    rw [HGe.out]
    go_wp2_with fail
    go_meet
    have hnew : Below wc.heap.size wc (wc.alloc (.cells (arrV of) 69)) := (Below.refl _ _).alloc (Nat.le_refl _) _
    exact ⟨rfl, HBK.out.below hnew, HBX.out.below hnew, hbl1.trans (hnew.mono (by have := hbl1.size; omega))⟩
   case rest =>
   obtain ⟨rfl, hbk2, hbx2, hbl2⟩ := hcut
   clear HBK HBX hbl1
   have HBK : Hid (BookAt wc b C A) := hbk2
   have HBX : Hid (BoxAt wc w.heap.size of) := hbx2
   obtain ⟨_, hA2, ac, aa, bc, ba, capc, capa, h0, h1, hc, ha⟩ := hbk2
   obtain ⟨rfl, hck⟩ := hc k hkl
   have hgi := i64_or_nat g inn (by omega) (by omega)
   have hEG := i64_or_nat E G (by omega) (by omega)
   have hEGl := or_lt16 hE hG
   have hcell := fun q hq => BoxAt.cell hbx2 q hq
   have hcl := HCL.out
   simp only [cleanC] at hcl
   clear HCL hbx2
   by_cases e62 : C[k] = 62
   ·have t62 : ((C[k].toNat : Int) == 62) = true := u8_eq (b := 62) e62
    rw [if_pos e62] at hcl
    by_cases hlb : 0 ≤ label ∧ label < 16
    ·rw [if_pos hlb] at hcl
     obtain ⟨lb, rfl⟩ := Int.eq_ofNat_of_zero_le hlb.1
     have hok : goesB (E ||| G) lb = ok := by simpa using hcl
     have hlb2 : lb < 16 := by omega
     clear hcl e62 hlb hcell
     cases ok
     case false =>
      have hA := HNO.out rfl
      obtain ⟨hAl, hAr⟩ := List.getElem?_eq_some_iff.mp hA
      obtain ⟨rfl, hak⟩ := ha k hAl
      have HAR : Hid (A[k] = r) := hAr
      clear hA hAr HY HNO
      go_wp2_with (first | (go_at_call 22; refine (goes_any (E ||| G) lb _ (by omega) (by omega)).mono ?_; rintro x1 w' ⟨rfl, rfl⟩))
      go_ret
      exact ⟨ret_int HAR.out, hbl2⟩
     case true =>
      obtain ⟨x, hx, hx0, hx1⟩ := HY.out rfl
      have HX : Hid _ := hx
      have HX0 : Hid _ := hx0
      have HX1 : Hid _ := hx1
      clear hx hx0 hx1 HY HNO
      go_wp2_with (first | (go_at_call 22; refine (goes_any (E ||| G) lb _ (by omega) (by omega)).mono ?_; rintro x1 w' ⟨rfl, rfl⟩) | (go_at_call 78; refine (blocks_any b k t C A _ HBK.out HT.out).mono ?_; rintro x1 w' ⟨rfl, rfl⟩) | (refine wpList_load_row rfl 69 (.tmp 6) rfl w.heap.size rfl 69 (arrV of) (0, 0) _ HBX.out Tryz.underlying69 rfl (by rw [infoArr, hsz]) ?_))
      refine (IH.out f' (by omega) b t.p t.q (g ||| inn) x C A of _ HBK.out HOF.out h16 (or_lt26 hg hnl) HX.out b1 b2).mono ?_
      rintro x1 w1 ⟨rfl, hb1⟩
      have hbk3 := HBK.out.below hb1
      have hbx3 := HBX.out.below hb1
      have hbl3 := hbl2.trans (hb1.mono hbl2.size)
      clear HBK HBX hbl2
      have HBK : Hid (BookAt w1 b C A) := hbk3
      have HBX : Hid (BoxAt w1 w.heap.size of) := hbx3
      clear hbk3 hbx3 hb1
      by_cases hxn : x < 0
      ·obtain ⟨y, hy, hy0, hy1⟩ := HX1.out hxn
       have HYY : Hid _ := hy
       have HY0 : Hid _ := hy0
       have HY1 : Hid _ := hy1
       clear hy hy0 hy1 HX1 HX0
       go_wp2_with (first | (refine wpList_load_row rfl 69 (.tmp 6) rfl w.heap.size rfl 69 (arrV of) (0, 0) _ HBX.out Tryz.underlying69 rfl (by rw [infoArr, hsz]) ?_))
       refine (IH.out f' (by omega) b t.r t.s (g ||| inn) y C A of _ HBK.out HOF.out h16 (or_lt26 hg hnl) HYY.out b3 b4).mono ?_
       rintro x1 w2 ⟨rfl, hb1⟩
       have hbk3 := HBK.out.below hb1
       have hbx3 := HBX.out.below hb1
       have hbl4 := hbl3.trans (hb1.mono hbl3.size)
       clear HBK HBX hbl3
       have HBK : Hid (BookAt w2 b C A) := hbk3
       have HBX : Hid (BoxAt w2 w.heap.size of) := hbx3
       clear hbk3 hbx3 hb1
       by_cases hyn : y < 0
       ·have HZ : Hid _ := HY1.out hyn
        go_wp2_with fail
        refine (over_any b k o C A _ HBK.out HV.out).mono ?_
        rintro x1 w3 ⟨rfl, hw3⟩
        subst hw3
        go_wp2_with fail
        exact ⟨⟨o, f', rfl, by omega, by omega, HBK.out, HBX.out, hbl4, HZ⟩, by simp [intOf]; omega⟩
       ·have HZ : Hid _ := HY0.out (by omega)
        go_wp2_with fail
        go_ret
        exact ⟨ret_int HZ.out, hbl4⟩
      ·have HZ : Hid _ := HX0.out (by omega)
       go_wp2_with fail
       go_ret
       exact ⟨ret_int HZ.out, hbl3⟩
    ·rw [if_neg hlb] at hcl; cases hcl
   have t62 : ((C[k].toNat : Int) == 62) = false := u8_ne (b := 62) e62
   rw [if_neg e62] at hcl
   by_cases e94 : C[k] = 94
   ·have t94 : ((C[k].toNat : Int) == 94) = true := u8_eq (b := 94) e94
    rw [if_pos e94] at hcl
    by_cases hlb : 0 ≤ label ∧ label < 16 ∧ 0 ≤ name ∧ name < 26
    ·rw [if_pos hlb] at hcl
     obtain ⟨lb, rfl⟩ := Int.eq_ofNat_of_zero_le hlb.1
     obtain ⟨nm, rfl⟩ := Int.eq_ofNat_of_zero_le hlb.2.2.1
     have hok : (goesB G lb && goesB lb (of.getD nm 0)) = ok := by simpa using hcl
     have hlb2 : lb < 16 := by omega
     have hnm2 : nm < 26 := by omega
     have hcn := hcell nm (by rw [HOF.out]; omega)
     have hq := getD_lt h16 nm
     generalize of.getD nm 0 = q at *
     clear hcl e94 e62 hlb hcell
     cases hg1 : goesB G lb
     ·have hokf : ok = false := by rw [← hok, hg1]; rfl
      subst hokf
      clear hok
      have hA := HNO.out rfl
      obtain ⟨hAl, hAr⟩ := List.getElem?_eq_some_iff.mp hA
      obtain ⟨rfl, hak⟩ := ha k hAl
      have HAR : Hid (A[k] = r) := hAr
      clear hA hAr HY HNO
      go_wp2_with (first | (go_at_call 22; refine (goes_any G lb _ (by omega) (by omega)).mono ?_; rintro x1 w' ⟨rfl, rfl⟩))
      go_ret
      exact ⟨ret_int HAR.out, hbl2⟩
     ·have hok2 : goesB lb q = ok := by rw [← hok, hg1]; rfl
      clear hok
      cases ok
      case false =>
       have hA := HNO.out rfl
       obtain ⟨hAl, hAr⟩ := List.getElem?_eq_some_iff.mp hA
       obtain ⟨rfl, hak⟩ := ha k hAl
       have HAR : Hid (A[k] = r) := hAr
       clear hA hAr HY HNO
       go_wp2_with (first | (go_at_call 22; refine (goes_any _ _ _ ?_ ?_).mono ?_; (first | exact hG | exact hlb2); (first | exact hq | exact hlb2); rintro x1 w' ⟨rfl, rfl⟩))
       go_ret
       exact ⟨ret_int HAR.out, hbl2⟩
      case true =>
       obtain ⟨x, hx, hx0, hx1⟩ := HY.out rfl
       have HX : Hid _ := hx
       have HX0 : Hid _ := hx0
       have HX1 : Hid _ := hx1
       clear hx hx0 hx1 HY HNO
       go_wp2_with (first | (go_at_call 22; refine (goes_any _ _ _ ?_ ?_).mono ?_; (first | exact hG | exact hlb2); (first | exact hq | exact hlb2); rintro x1 w' ⟨rfl, rfl⟩) | (go_at_call 78; refine (blocks_any b k t C A _ HBK.out HT.out).mono ?_; rintro x1 w' ⟨rfl, rfl⟩) | (refine wpList_load_row rfl 69 (.tmp 6) rfl w.heap.size rfl 69 (arrV of) (0, 0) _ HBX.out Tryz.underlying69 rfl (by rw [infoArr, hsz]) ?_))
       refine (IH.out f' (by omega) b t.p t.q (g ||| inn) x C A of _ HBK.out HOF.out h16 (or_lt26 hg hnl) HX.out b1 b2).mono ?_
       rintro x1 w1 ⟨rfl, hb1⟩
       have hbk3 := HBK.out.below hb1
       have hbx3 := HBX.out.below hb1
       have hbl3 := hbl2.trans (hb1.mono hbl2.size)
       clear HBK HBX hbl2
       have HBK : Hid (BookAt w1 b C A) := hbk3
       have HBX : Hid (BoxAt w1 w.heap.size of) := hbx3
       clear hbk3 hbx3 hb1
       by_cases hxn : x < 0
       ·obtain ⟨y, hy, hy0, hy1⟩ := HX1.out hxn
        have HYY : Hid _ := hy
        have HY0 : Hid _ := hy0
        have HY1 : Hid _ := hy1
        clear hy hy0 hy1 HX1 HX0
        go_wp2_with (first | (refine wpList_load_row rfl 69 (.tmp 6) rfl w.heap.size rfl 69 (arrV of) (0, 0) _ HBX.out Tryz.underlying69 rfl (by rw [infoArr, hsz]) ?_))
        refine (IH.out f' (by omega) b t.r t.s (g ||| inn) y C A of _ HBK.out HOF.out h16 (or_lt26 hg hnl) HYY.out b3 b4).mono ?_
        rintro x1 w2 ⟨rfl, hb1⟩
        have hbk3 := HBK.out.below hb1
        have hbx3 := HBX.out.below hb1
        have hbl4 := hbl3.trans (hb1.mono hbl3.size)
        clear HBK HBX hbl3
        have HBK : Hid (BookAt w2 b C A) := hbk3
        have HBX : Hid (BoxAt w2 w.heap.size of) := hbx3
        clear hbk3 hbx3 hb1
        by_cases hyn : y < 0
        ·have HZ : Hid _ := HY1.out hyn
         go_wp2_with fail
         refine (over_any b k o C A _ HBK.out HV.out).mono ?_
         rintro x1 w3 ⟨rfl, hw3⟩
         subst hw3
         go_wp2_with fail
         exact ⟨⟨o, f', rfl, by omega, by omega, HBK.out, HBX.out, hbl4, HZ⟩, by simp [intOf]; omega⟩
        ·have HZ : Hid _ := HY0.out (by omega)
         go_wp2_with fail
         go_ret
         exact ⟨ret_int HZ.out, hbl4⟩
       ·have HZ : Hid _ := HX0.out (by omega)
        go_wp2_with fail
        go_ret
        exact ⟨ret_int HZ.out, hbl3⟩
    ·rw [if_neg hlb] at hcl; cases hcl
   have t94 : ((C[k].toNat : Int) == 94) = false := u8_ne (b := 94) e94
   rw [if_neg e94] at hcl
   by_cases e40 : C[k] = 40
   ·have t40 : ((C[k].toNat : Int) == 40) = true := u8_eq (b := 40) e40
    rw [if_pos (.inl e40)] at hcl
    have hok : true = ok := by simpa using hcl
    subst hok
    clear hcl hcell
    obtain ⟨x, hx, hx0, hx1⟩ := HY.out rfl
    have HX : Hid _ := hx
    have HX0 : Hid _ := hx0
    have HX1 : Hid _ := hx1
    clear hx hx0 hx1 HY HNO
    go_wp2_with (first | (go_at_call 78; refine (blocks_any b k t C A _ HBK.out HT.out).mono ?_; rintro x1 w' ⟨rfl, rfl⟩) | (refine wpList_load_row rfl 69 (.tmp 6) rfl w.heap.size rfl 69 (arrV of) (0, 0) _ HBX.out Tryz.underlying69 rfl (by rw [infoArr, hsz]) ?_))
    refine (IH.out f' (by omega) b t.p t.q (g ||| inn) x C A of _ HBK.out HOF.out h16 (or_lt26 hg hnl) HX.out b1 b2).mono ?_
    rintro x1 w1 ⟨rfl, hb1⟩
    have hbk3 := HBK.out.below hb1
    have hbx3 := HBX.out.below hb1
    have hbl3 := hbl2.trans (hb1.mono hbl2.size)
    clear HBK HBX hbl2
    have HBK : Hid (BookAt w1 b C A) := hbk3
    have HBX : Hid (BoxAt w1 w.heap.size of) := hbx3
    clear hbk3 hbx3 hb1
    by_cases hxn : x < 0
    ·obtain ⟨y, hy, hy0, hy1⟩ := HX1.out hxn
     have HYY : Hid _ := hy
     have HY0 : Hid _ := hy0
     have HY1 : Hid _ := hy1
     clear hy hy0 hy1 HX1 HX0
     go_wp2_with (first | (refine wpList_load_row rfl 69 (.tmp 6) rfl w.heap.size rfl 69 (arrV of) (0, 0) _ HBX.out Tryz.underlying69 rfl (by rw [infoArr, hsz]) ?_))
     refine (IH.out f' (by omega) b t.r t.s (g ||| inn) y C A of _ HBK.out HOF.out h16 (or_lt26 hg hnl) HYY.out b3 b4).mono ?_
     rintro x1 w2 ⟨rfl, hb1⟩
     have hbk3 := HBK.out.below hb1
     have hbx3 := HBX.out.below hb1
     have hbl4 := hbl3.trans (hb1.mono hbl3.size)
     clear HBK HBX hbl3
     have HBK : Hid (BookAt w2 b C A) := hbk3
     have HBX : Hid (BoxAt w2 w.heap.size of) := hbx3
     clear hbk3 hbx3 hb1
     by_cases hyn : y < 0
     ·have HZ : Hid _ := HY1.out hyn
      go_wp2_with fail
      refine (over_any b k o C A _ HBK.out HV.out).mono ?_
      rintro x1 w3 ⟨rfl, hw3⟩
      subst hw3
      go_wp2_with fail
      exact ⟨⟨o, f', rfl, by omega, by omega, HBK.out, HBX.out, hbl4, HZ⟩, by simp [intOf]; omega⟩
     ·have HZ : Hid _ := HY0.out (by omega)
      go_wp2_with fail
      go_ret
      exact ⟨ret_int HZ.out, hbl4⟩
    ·have HZ : Hid _ := HX0.out (by omega)
     go_wp2_with fail
     go_ret
     exact ⟨ret_int HZ.out, hbl3⟩
   have t40 : ((C[k].toNat : Int) == 40) = false := u8_ne (b := 40) e40
   by_cases e42 : C[k] = 42
   ·have t42 : ((C[k].toNat : Int) == 42) = true := u8_eq (b := 42) e42
    rw [if_pos (.inr e42)] at hcl
    have hok : true = ok := by simpa using hcl
    subst hok
    clear hcl hcell
    obtain ⟨x, hx, hx0, hx1⟩ := HY.out rfl
    have HX : Hid _ := hx
    have HX0 : Hid _ := hx0
    have HX1 : Hid _ := hx1
    clear hx hx0 hx1 HY HNO
    go_wp2_with (first | (go_at_call 78; refine (blocks_any b k t C A _ HBK.out HT.out).mono ?_; rintro x1 w' ⟨rfl, rfl⟩) | (refine wpList_load_row rfl 69 (.tmp 6) rfl w.heap.size rfl 69 (arrV of) (0, 0) _ HBX.out Tryz.underlying69 rfl (by rw [infoArr, hsz]) ?_))
    refine (IH.out f' (by omega) b t.p t.q (g ||| inn) x C A of _ HBK.out HOF.out h16 (or_lt26 hg hnl) HX.out b1 b2).mono ?_
    rintro x1 w1 ⟨rfl, hb1⟩
    have hbk3 := HBK.out.below hb1
    have hbx3 := HBX.out.below hb1
    have hbl3 := hbl2.trans (hb1.mono hbl2.size)
    clear HBK HBX hbl2
    have HBK : Hid (BookAt w1 b C A) := hbk3
    have HBX : Hid (BoxAt w1 w.heap.size of) := hbx3
    clear hbk3 hbx3 hb1
    by_cases hxn : x < 0
    ·obtain ⟨y, hy, hy0, hy1⟩ := HX1.out hxn
     have HYY : Hid _ := hy
     have HY0 : Hid _ := hy0
     have HY1 : Hid _ := hy1
     clear hy hy0 hy1 HX1 HX0
     go_wp2_with (first | (refine wpList_load_row rfl 69 (.tmp 6) rfl w.heap.size rfl 69 (arrV of) (0, 0) _ HBX.out Tryz.underlying69 rfl (by rw [infoArr, hsz]) ?_))
     refine (IH.out f' (by omega) b t.r t.s (g ||| inn) y C A of _ HBK.out HOF.out h16 (or_lt26 hg hnl) HYY.out b3 b4).mono ?_
     rintro x1 w2 ⟨rfl, hb1⟩
     have hbk3 := HBK.out.below hb1
     have hbx3 := HBX.out.below hb1
     have hbl4 := hbl3.trans (hb1.mono hbl3.size)
     clear HBK HBX hbl3
     have HBK : Hid (BookAt w2 b C A) := hbk3
     have HBX : Hid (BoxAt w2 w.heap.size of) := hbx3
     clear hbk3 hbx3 hb1
     by_cases hyn : y < 0
     ·have HZ : Hid _ := HY1.out hyn
      go_wp2_with fail
      refine (over_any b k o C A _ HBK.out HV.out).mono ?_
      rintro x1 w3 ⟨rfl, hw3⟩
      subst hw3
      go_wp2_with fail
      exact ⟨⟨o, f', rfl, by omega, by omega, HBK.out, HBX.out, hbl4, HZ⟩, by simp [intOf]; omega⟩
     ·have HZ : Hid _ := HY0.out (by omega)
      go_wp2_with fail
      go_ret
      exact ⟨ret_int HZ.out, hbl4⟩
    ·have HZ : Hid _ := HX0.out (by omega)
     go_wp2_with fail
     go_ret
     exact ⟨ret_int HZ.out, hbl3⟩
   have t42 : ((C[k].toNat : Int) == 42) = false := u8_ne (b := 42) e42
   rw [if_neg (fun h => h.elim e40 e42)] at hcl
   by_cases hlb : 0 ≤ name ∧ name < 26
   ·rw [if_pos hlb] at hcl
    obtain ⟨nm, rfl⟩ := Int.eq_ofNat_of_zero_le hlb.1
    have hok : goesB (E ||| G) (of.getD nm 0) = ok := by simpa using hcl
    have hnm2 : nm < 26 := by omega
    have hcn := hcell nm (by rw [HOF.out]; omega)
    have hq := getD_lt h16 nm
    generalize of.getD nm 0 = q at *
    clear hcl e94 e62 e40 e42 hlb hcell
    cases ok
    case false =>
     have hA := HNO.out rfl
     obtain ⟨hAl, hAr⟩ := List.getElem?_eq_some_iff.mp hA
     obtain ⟨rfl, hak⟩ := ha k hAl
     have HAR : Hid (A[k] = r) := hAr
     clear hA hAr HY HNO
     go_wp2_with (first | (go_at_call 22; refine (goes_any (E ||| G) q _ (by omega) (by omega)).mono ?_; rintro x1 w' ⟨rfl, rfl⟩))
     go_ret
     exact ⟨ret_int HAR.out, hbl2⟩
    case true =>
     obtain ⟨x, hx, hx0, hx1⟩ := HY.out rfl
     have HX : Hid _ := hx
     have HX0 : Hid _ := hx0
     have HX1 : Hid _ := hx1
     clear hx hx0 hx1 HY HNO
     go_wp2_with (first | (go_at_call 22; refine (goes_any (E ||| G) q _ (by omega) (by omega)).mono ?_; rintro x1 w' ⟨rfl, rfl⟩) | (go_at_call 78; refine (blocks_any b k t C A _ HBK.out HT.out).mono ?_; rintro x1 w' ⟨rfl, rfl⟩) | (refine wpList_load_row rfl 69 (.tmp 6) rfl w.heap.size rfl 69 (arrV of) (0, 0) _ HBX.out Tryz.underlying69 rfl (by rw [infoArr, hsz]) ?_))
     refine (IH.out f' (by omega) b t.p t.q (g ||| inn) x C A of _ HBK.out HOF.out h16 (or_lt26 hg hnl) HX.out b1 b2).mono ?_
     rintro x1 w1 ⟨rfl, hb1⟩
     have hbk3 := HBK.out.below hb1
     have hbx3 := HBX.out.below hb1
     have hbl3 := hbl2.trans (hb1.mono hbl2.size)
     clear HBK HBX hbl2
     have HBK : Hid (BookAt w1 b C A) := hbk3
     have HBX : Hid (BoxAt w1 w.heap.size of) := hbx3
     clear hbk3 hbx3 hb1
     by_cases hxn : x < 0
     ·obtain ⟨y, hy, hy0, hy1⟩ := HX1.out hxn
      have HYY : Hid _ := hy
      have HY0 : Hid _ := hy0
      have HY1 : Hid _ := hy1
      clear hy hy0 hy1 HX1 HX0
      go_wp2_with (first | (refine wpList_load_row rfl 69 (.tmp 6) rfl w.heap.size rfl 69 (arrV of) (0, 0) _ HBX.out Tryz.underlying69 rfl (by rw [infoArr, hsz]) ?_))
      refine (IH.out f' (by omega) b t.r t.s (g ||| inn) y C A of _ HBK.out HOF.out h16 (or_lt26 hg hnl) HYY.out b3 b4).mono ?_
      rintro x1 w2 ⟨rfl, hb1⟩
      have hbk3 := HBK.out.below hb1
      have hbx3 := HBX.out.below hb1
      have hbl4 := hbl3.trans (hb1.mono hbl3.size)
      clear HBK HBX hbl3
      have HBK : Hid (BookAt w2 b C A) := hbk3
      have HBX : Hid (BoxAt w2 w.heap.size of) := hbx3
      clear hbk3 hbx3 hb1
      by_cases hyn : y < 0
      ·have HZ : Hid _ := HY1.out hyn
       go_wp2_with fail
       refine (over_any b k o C A _ HBK.out HV.out).mono ?_
       rintro x1 w3 ⟨rfl, hw3⟩
       subst hw3
       go_wp2_with fail
       exact ⟨⟨o, f', rfl, by omega, by omega, HBK.out, HBX.out, hbl4, HZ⟩, by simp [intOf]; omega⟩
      ·have HZ : Hid _ := HY0.out (by omega)
       go_wp2_with fail
       go_ret
       exact ⟨ret_int HZ.out, hbl4⟩
     ·have HZ : Hid _ := HX0.out (by omega)
      go_wp2_with fail
      go_ret
      exact ⟨ret_int HZ.out, hbl3⟩
   ·rw [if_neg hlb] at hcl; cases hcl
  ·have HF : Hid (-1 = r) := dirty_end HD.out (by omega)
   go_wp2
   go_ret
   exact ⟨ret_int HF.out, hbl⟩
end Go.Proofs.YtdgmoiflahoihaaGreatDoor
