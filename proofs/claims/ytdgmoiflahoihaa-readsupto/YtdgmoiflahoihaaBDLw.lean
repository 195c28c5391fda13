import Derived.Test.YtdgmoiflahoihaaBDDw
import Derived.Test.YtdgmoiflahoihaaBDTw
import Derived.Deep.RegionWith
import Derived.Deep.Cut
import Derived.Deep.CutRange
import Derived.Deep.RegionHeld3

namespace Go.Proofs.Ytdgmoiflahoihaa
open Go.RowKit
set_option linter.unusedSimpArgs false
set_option linter.unusedVariables false
theorem upTo_step {c : UInt8} {r : List UInt8} (h : c ≠ 58) : upTo58 (c :: r) = (c :: (upTo58 r).1, (upTo58 r).2) := by rw [upTo58, if_neg h]
theorem upTo_here (r : List UInt8) : upTo58 (58 :: r) = ([], some r) := by rw [upTo58, if_pos rfl]
theorem take_more (s : ByteArray) (k : Nat) (h : k < s.size) : s.data.toList.take (k + 1) = s.data.toList.take k ++ [s[k]] := by
 rw [List.take_add_one, List.getElem?_eq_getElem (by simpa using h)]
 rfl
theorem txt_eq (l : List UInt8) (s : ByteArray) : ((txt l).toList == s.toList) = decide (l = s.data.toList) := by
 rw [ByteArray.toList_eq, ByteArray.toList_eq, Bool.eq_iff_iff, beq_iff_eq, decide_eq_true_iff]
 exact Iff.rfl
theorem line_txt (p : Int) (v : Vl) : txt (intB p) ++ ⟨#[58]⟩ ++ txt (worthB v) = txt (lineB ⟨p, v⟩) := by
 have e1 : txt (intB p) ++ ⟨#[58]⟩ = txt (intB p ++ [58]) := txt_append (intB p) [58]
 rw [e1, txt_append]
 unfold lineB
 simp
theorem worthB_len (v : Vl) (hv : (-9223372036854775808 ≤ v.num ∧ v.num ≤ 9223372036854775807) ∧ (-9223372036854775808 ≤ v.fault ∧ v.fault ≤ 9223372036854775807)) : (worthB v).length ≤ 21 := by
 have h1 := intB_len v.num hv.1
 have h2 := intB_len v.fault hv.2
 unfold worthB
 split
 ·simp only [List.length_cons]; omega
 ·omega
structure LnAt (w W : World) (p num fault : Int) : Prop where
 g0 : W.cell? ⟨w.heap.size + 1, 0, none⟩ = some (.int .i64 p)
 g1 : W.cell? ⟨w.heap.size + 1, 1, none⟩ = some (.int .i64 num)
 g2 : W.cell? ⟨w.heap.size + 1, 2, none⟩ = some (.int .i64 fault)
 h0 : W.cell? ⟨w.heap.size, 0, none⟩ = some (.int .i64 0)
 h1 : W.cell? ⟨w.heap.size, 1, none⟩ = some (.int .i64 0)
 h2 : W.cell? ⟨w.heap.size, 2, none⟩ = some (.int .i64 0)
 hf : ∀ o, W.frozen? ⟨w.heap.size, o, none⟩ = false
 size : w.heap.size + 2 ≤ W.heap.size
 low : Below w.heap.size w W
theorem LnAt.start (w : World) (p num fault : Int) (t t' : TypeId) : LnAt w ((w.alloc (.cells #[.int .i64 0, .int .i64 0, .int .i64 0] t)).alloc (.cells #[.int .i64 p, .int .i64 num, .int .i64 fault] t')) p num fault := by
 refine ⟨?_, ?_, ?_, ?_, ?_, ?_, fun o => ?_, by simp, ((Below.refl _ _).alloc (Nat.le_refl _) _).alloc (by simp) _⟩
 all_goals simp [go_sem]
theorem LnAt.drew {w W : World} {p num fault : Int} (h : LnAt w W p num fault) : LnAt w W.drew p num fault := by
 obtain ⟨g0, g1, g2, h0, h1, h2, hf, size, low⟩ := h
 exact ⟨g0, g1, g2, h0, h1, h2, hf, size, low.drew⟩
theorem LnAt.below {w W W' : World} {p num fault : Int} (h : LnAt w W p num fault) (hb : Below W.heap.size W W') : LnAt w W' p num fault := by
 obtain ⟨g0, g1, g2, h0, h1, h2, hf, size, low⟩ := h
 have k0 : w.heap.size < W.heap.size := by omega
 have k1 : w.heap.size + 1 < W.heap.size := by omega
 exact ⟨(hb.cell (p := ⟨w.heap.size + 1, 0, none⟩) k1).trans g0, (hb.cell (p := ⟨w.heap.size + 1, 1, none⟩) k1).trans g1, (hb.cell (p := ⟨w.heap.size + 1, 2, none⟩) k1).trans g2, (hb.cell (p := ⟨w.heap.size, 0, none⟩) k0).trans h0, (hb.cell (p := ⟨w.heap.size, 1, none⟩) k0).trans h1, (hb.cell (p := ⟨w.heap.size, 2, none⟩) k0).trans h2, fun o => (hb.frozen (p := ⟨w.heap.size, o, none⟩) k0).trans (hf o), Nat.le_trans size hb.size, low.trans (hb.mono (by omega))⟩
theorem LnAt.done {w W : World} {p num fault : Int} (h : LnAt w W p num fault) : Below w.heap.size w (((W.setCell ⟨w.heap.size, 0, none⟩ (.int .i64 p)).setCell ⟨w.heap.size, 1, none⟩ (.int .i64 num)).setCell ⟨w.heap.size, 2, none⟩ (.int .i64 fault)) :=
 ((h.low.setCell (Nat.le_refl _) _).setCell (Nat.le_refl _) _).setCell (Nat.le_refl _) _
set_option maxRecDepth 100000 in
set_option maxHeartbeats 4000000 in
theorem refLine_any (s : ByteArray) (w : World) (hs : s.size ≤ 2000000) :
  Calls Try.prog 68 #[.string s] w fun e w' => e = .returned (.tuple #[lnV (lineR s.data.toList).1, .bool (lineR s.data.toList).2]) ∧ Below w.heap.size w w' := by
 have HDG : Hid (∀ (a : ByteArray) w, a.size ≤ 2000000 → Calls Try.prog 98 #[.string a] w fun e w' => e = .returned (.tuple #[.int .i64 (digV a.data.toList).1, .bool (digV a.data.toList).2]) ∧ w' = w) := fun a w h => refDig_any a w h
 have hB0 : Below w.heap.size w (w.alloc (.cells #[.int .i64 0, .int .i64 0, .int .i64 0] 113)) := (Below.refl _ _).alloc (Nat.le_refl _) _
 generalize hLR : lineR s.data.toList = LR
 have HLR : Hid (lineR s.data.toList = LR) := hLR
 clear hLR
 go_enter Try.func68, Try.ntmps68
 go_wp2_with fail
 go_loopw [4] (fun x w' => ∃ k : Nat, x = .int .i64 k ∧ k ≤ s.size ∧ w' = w.alloc (.cells #[.int .i64 0, .int .i64 0, .int .i64 0] 113) ∧ Hid (upTo58 s.data.toList = (s.data.toList.take k ++ (upTo58 (s.data.toList.drop k)).1, (upTo58 (s.data.toList.drop k)).2))) (fun x _ => s.size - (intOf x).toNat)
 case atStart => exact ⟨0, rfl, Nat.zero_le _, rfl, by show _ = _; simp⟩
 case round =>
  obtain ⟨k, rfl, hk, rfl, HU⟩ := hrel
  by_cases hlt : k < s.size
  ·have hu := HU.out
   rw [bdrop s k hlt] at hu
   by_cases hc : s[k] = 58
   ·have tc : ((s[k].toNat : Int) != 58) = false := by rw [hc]; rfl
    rw [hc, upTo_here, List.append_nil] at hu
    have te : ((k : Int) == (s.size : Int)) = false := by rw [beq_eq_false_iff_ne]; omega
    have hA : (s.extract 0 k).data.toList = s.data.toList.take k := by simp [ByteArray.data_extract]
    have hA2 : (s.extract 0 k).size ≤ 2000000 := by simp [ByteArray.size_extract]; omega
    have HA : Hid (∀ w, Calls Try.prog 98 #[.string (s.extract 0 k)] w fun e w' => e = .returned (.tuple #[.int .i64 (digV (s.data.toList.take k)).1, .bool (digV (s.data.toList.take k)).2]) ∧ w' = w) := fun w => by
     have := HDG.out (s.extract 0 k) w hA2
     rw [hA] at this
     exact this
    generalize hP : digV (s.data.toList.take k) = P at *
    have hPl := digV_lim (s.data.toList.take k)
    rw [hP] at hPl
    have HP : Hid (digV (s.data.toList.take k) = P) := hP
    clear hP
    go_upto_region 10 with (first | (go_at_call 98; refine (HA.out _).mono ?_; rintro e w1 ⟨rfl, hw1⟩; subst hw1))
    have hV : (s.extract (k + 1) s.size).data.toList = s.data.toList.drop (k + 1) := by
     simp only [ByteArray.data_extract, Array.toList_extract]
     exact List.take_of_length_le (by simp)
    have hV2 : (s.extract (k + 1) s.size).size ≤ 2000000 := by simp [ByteArray.size_extract]; omega
    generalize s.extract (k + 1) s.size = V at *
    have HV : Hid (∀ w, Calls Try.prog 98 #[.string V] w fun e w' => e = .returned (.tuple #[.int .i64 (digV (s.data.toList.drop (k + 1))).1, .bool (digV (s.data.toList.drop (k + 1))).2]) ∧ w' = w) := fun w => by
     have := HDG.out V w hV2
     rw [hV] at this
     exact this
    have HLR2 : Hid ((⟨P.1, (valR (s.data.toList.drop (k + 1))).1⟩, P.2 && (valR (s.data.toList.drop (k + 1))).2 && decide (0 ≤ P.1) && decide (P.1 ≤ 400) && decide (lineB ⟨P.1, (valR (s.data.toList.drop (k + 1))).1⟩ = s.data.toList)) = LR) := by
     show _ = _
     rw [← HLR.out]
     unfold lineR
     rw [hu, ← HP.out]
    have hvl : (s.data.toList.drop (k + 1)).length = V.size := by rw [← hV]; simp
    have hdl : digV (s.data.toList.drop (k + 1)) = digV V.data.toList := by rw [hV]
    generalize s.data.toList.drop (k + 1) = vl at *
    clear hu HU hA hA2 HA HDG
    have hw0 : (w.alloc (.cells #[.int .i64 0, .int .i64 0, .int .i64 0] 113)).heap.size = w.heap.size + 1 := by simp
    generalize hBB : (decide (V.size = 2) && decide (vl.getD 0 0 = 33)) = BB
    have HBB : Hid ((decide (V.size = 2) && decide (vl.getD 0 0 = 33)) = BB) := hBB
    clear hBB
    go_cut [50] from 43 to 49 (fun x wx => x = .bool BB ∧ wx = (w.alloc (.cells #[.int .i64 0, .int .i64 0, .int .i64 0] 113)).alloc (.cells #[.int .i64 P.1, .int .i64 0, .int .i64 0] 113))
    case first =>
     by_cases h2 : V.size = 2
     ·have tf : ((V.size : Int) == 2) = true := by simp [h2]
      have hpos : 0 < V.size := by omega
      have e0 : vl.getD 0 0 = V[0] := by
       rw [← hV, List.getD_eq_getElem?_getD, List.getElem?_eq_getElem (by simpa using hpos)]
       rfl
      have tg : ((V[0].toNat : Int) == 33) = BB := by
       rw [← HBB.out, decide_eq_true h2, Bool.true_and, e0, Bool.eq_iff_iff, beq_iff_eq, decide_eq_true_iff]
       constructor
       ·intro e; exact UInt8.toNat_inj.mp (by have a1 : (33 : UInt8).toNat = 33 := rfl; omega)
       ·intro e; rw [e]; rfl
      clear h2
      go_wp2_with fail
      all_goals go_meet
      all_goals exact ⟨rfl, rfl⟩
     ·have tf : ((V.size : Int) == 2) = false := by simp; omega
      have hb : BB = false := by rw [← HBB.out, decide_eq_false h2, Bool.false_and]
      subst hb
      go_wp2_with fail
      all_goals go_meet
      all_goals exact ⟨rfl, rfl⟩
    case rest =>
    obtain ⟨rfl, rfl⟩ := hcut
    go_upto_if 50 with fail
    go_cut [9, 10, 11] from 51 to 75 (fun x y z wx => ∃ (num fault : Int) (fit : Bool), x = .bool fit ∧ (-9223372036854775808 ≤ num ∧ num ≤ 9223372036854775807) ∧ (-9223372036854775808 ≤ fault ∧ fault ≤ 9223372036854775807) ∧ wx = (w.alloc (.cells #[.int .i64 0, .int .i64 0, .int .i64 0] 113)).alloc (.cells #[.int .i64 P.1, .int .i64 num, .int .i64 fault] 113) ∧ Hid (((⟨P.1, ⟨num, fault⟩⟩ : Ln), P.2 && fit && decide (0 ≤ P.1) && decide (P.1 ≤ 400) && decide (lineB ⟨P.1, ⟨num, fault⟩⟩ = s.data.toList)) = LR))
    case first =>
     by_cases hf : V.size = 2 ∧ vl.getD 0 0 = 33
     ·obtain ⟨hf1, hf2⟩ := hf
      have t2 : BB = true := by rw [← HBB.out, decide_eq_true hf1, decide_eq_true hf2]; rfl
      have hpos1 : 1 < V.size := by omega
      have hpi : (1 : Int) < (V.size : Int) := by omega
      have e1 : vl.getD 1 0 = V[1] := by
       rw [← hV, List.getD_eq_getElem?_getD, List.getElem?_eq_getElem (by simpa using hpos1)]
       rfl
      have hvr : valR vl = (⟨0, (V[1].toNat : Int) - 48⟩, decide (V[1].toNat = 49) || decide (V[1].toNat = 50)) := by unfold valR; rw [if_pos ⟨by rw [hvl]; exact hf1, hf2⟩, e1]
      rw [hvr] at HLR2
      have hby := V[1].toNat_lt
      have hft : (((V[1].toNat : Int) - 48 == 1) || ((V[1].toNat : Int) - 48 == 2)) = (decide (V[1].toNat = 49) || decide (V[1].toNat = 50)) := by
       rw [Bool.eq_iff_iff]
       simp only [Bool.or_eq_true, beq_iff_eq, decide_eq_true_eq]
       omega
      rw [← hft] at HLR2
      simp only at HLR2
      clear hft hvr hdl e1 HV hf1 hf2
      clear HBB
      subst t2
      go_upto_region 12 with fail
      have hFl : -9223372036854775808 ≤ (V[1].toNat : Int) - 48 ∧ (V[1].toNat : Int) - 48 ≤ 9223372036854775807 := by omega
      generalize (V[1].toNat : Int) - 48 = F at *
      clear hby
      cases k1 : (F == 1)
      ·cases k2 : (F == 2)
       ·rw [k1, k2] at HLR2
        go_wp2_with fail
        go_meet
        exact ⟨0, F, false, rfl, by omega, hFl, rfl, HLR2⟩
       ·rw [k1, k2] at HLR2
        go_wp2_with fail
        go_meet
        exact ⟨0, F, true, rfl, by omega, hFl, rfl, HLR2⟩
      ·rw [k1] at HLR2
       go_wp2_with fail
       go_meet
       exact ⟨0, F, true, rfl, by omega, hFl, rfl, HLR2⟩
     ·have t2 : BB = false := by
       rw [← HBB.out, Bool.and_eq_false_iff, decide_eq_false_iff_not, decide_eq_false_iff_not]
       by_cases h2 : V.size = 2
       ·exact .inr fun h => hf ⟨h2, h⟩
       ·exact .inl h2
      have hvr : valR vl = (⟨(digV vl).1, 0⟩, (digV vl).2) := by unfold valR; rw [if_neg (by rw [hvl]; exact hf)]
      rw [hvr] at HLR2
      have hlim := digV_lim vl
      clear hvr hdl hf
      generalize digV vl = Q at *
      simp only at HLR2
      clear HBB
      subst t2
      go_wp2_with (first | (go_at_call 98; refine (HV.out _).mono ?_; rintro e w2 ⟨rfl, hw2⟩; subst hw2))
      go_meet
      exact ⟨Q.1, 0, Q.2, rfl, hlim, by omega, rfl, HLR2⟩
    case rest =>
    obtain ⟨num, fault, fit, rfl, hn, hfl, rfl, HE⟩ := hcut
    clear HV HLR2 hV hV2 hvl hdl HBB
    have HLIM := (⟨hn, hfl⟩ : (-9223372036854775808 ≤ num ∧ num ≤ 9223372036854775807) ∧ (-9223372036854775808 ≤ fault ∧ fault ≤ 9223372036854775807))
    have HNU : Hid (∀ w, Calls Try.prog 99 #[.int .i64 P.1] w fun e w' => e = .returned (.string (txt (intB P.1))) ∧ Below w.heap.size w w') := fun w => refNum_any P.1 hPl w
    have HWO : Hid (∀ w, Calls Try.prog 100 #[.agg #[.int .i64 num, .int .i64 fault]] w fun e w' => e = .returned (.string (txt (worthB ⟨num, fault⟩))) ∧ Below w.heap.size w w') := fun w => refWorth_any ⟨num, fault⟩ HLIM w
    have HEQ : Hid (txt (intB P.1) ++ ⟨#[58]⟩ ++ txt (worthB ⟨num, fault⟩) = txt (lineB ⟨P.1, ⟨num, fault⟩⟩)) := line_txt P.1 ⟨num, fault⟩
    have hl1 : (txt (intB P.1)).size ≤ 20 := intB_len P.1 hPl
    have hl2 : (txt (worthB ⟨num, fault⟩)).size ≤ 21 := worthB_len ⟨num, fault⟩ HLIM
    generalize txt (intB P.1) = N1 at *
    generalize txt (worthB ⟨num, fault⟩) = N2 at *
    have HL : Hid (LnAt w ((w.alloc (.cells #[.int .i64 0, .int .i64 0, .int .i64 0] 113)).alloc (.cells #[.int .i64 P.1, .int .i64 num, .int .i64 fault] 113)) P.1 num fault) := LnAt.start w _ _ _ _ _
    generalize (w.alloc (.cells #[.int .i64 0, .int .i64 0, .int .i64 0] 113)).alloc (.cells #[.int .i64 P.1, .int .i64 num, .int .i64 fault] 113) = W at *
    have c1 := HL.out.g1
    have c2 := HL.out.g2
    go_upto_region 16 with fail
    go_cut [12] from 76 to 100 (fun x wx => x = .string (txt (lineB ⟨P.1, ⟨num, fault⟩⟩)) ∧ Hid (LnAt w wx P.1 num fault))
    case first =>
     go_region_with (first | (go_at_call 99; refine (HNU.out _).mono ?_; rintro e w3 ⟨rfl, hb3⟩; have HL3 : Hid (LnAt w w3 P.1 num fault) := (by first | exact HL.out.below hb3 | exact HL.out.drew.below hb3); have d1 := HL3.out.g1; have d2 := HL3.out.g2; clear hb3) | (go_at_call 100; refine (HWO.out _).mono ?_; rintro e w4 ⟨rfl, hb4⟩; have HL4 : Hid (LnAt w w4 P.1 num fault) := (by first | exact HL3.out.below hb4 | exact HL3.out.drew.below hb4); clear hb4))
     all_goals go_wp2_with fail
     all_goals go_meet
     all_goals exact ⟨by rw [HEQ.out], HL4⟩
    case rest =>
    obtain ⟨rfl, HL4⟩ := hcut
    clear c1 c2 HL HEQ HNU HWO hl1 hl2
    have c0 := HL4.out.g0
    have c1 := HL4.out.g1
    have c2 := HL4.out.g2
    have z0 := HL4.out.h0
    have z1 := HL4.out.h1
    have z2 := HL4.out.h2
    have zf := HL4.out.hf
    have hlow := HL4.out.done
    have tq := txt_eq (lineB ⟨P.1, ⟨num, fault⟩⟩) s
    have hLR2 := HE.out
    clear HLR HE
    go_wp2_with fail
    all_goals (refine bodyPost_ret (v := .tuple #[lnV LR.1, .bool LR.2]) ?_ rfl ⟨rfl, hlow⟩; rw [← hLR2]; clear hLR2; simp [results, Try.results68, go_sem, c0, c1, c2, z0, z1, z2, zf, *]; try (intros; omega))
   ·have tc : ((s[k].toNat : Int) != 58) = true := by
     rw [bne_iff_ne]
     intro e
     exact hc (UInt8.toNat_inj.mp (by have a1 : (58 : UInt8).toNat = 58 := rfl; omega))
    have HU2 : Hid (upTo58 s.data.toList = (s.data.toList.take (k + 1) ++ (upTo58 (s.data.toList.drop (k + 1))).1, (upTo58 (s.data.toList.drop (k + 1))).2)) := by
     show _ = _
     rw [hu, upTo_step hc, take_more s k hlt]
     simp
    clear hu HU
    go_wp2_with fail
    go_roundw
    case rel => exact ⟨k + 1, by go_num, by omega, by trivial, HU2⟩
    case measure => simp [intOf]; omega
  ·have hu := HU.out
   rw [List.drop_of_length_le (by simp; omega)] at hu
   have hR : LR = (⟨0, ⟨0, 0⟩⟩, false) := by
    rw [← HLR.out]
    unfold lineR
    rw [hu]
    rfl
   subst hR
   have te : ((k : Int) == (s.size : Int)) = true := by rw [beq_iff_eq]; omega
   clear hu HU
   go_wp2_with fail
   exact bodyPost_ret (v := .tuple #[lnV ⟨0, ⟨0, 0⟩⟩, .bool false]) (by simp [results, Try.results68, go_sem]) rfl ⟨rfl, by first | exact hB0 | exact ((hB0.setCell (Nat.le_refl _) _).setCell (Nat.le_refl _) _).setCell (Nat.le_refl _) _⟩
end Go.Proofs.Ytdgmoiflahoihaa
