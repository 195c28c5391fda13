import Derived.Test.YtdgmoiflahoihabGreatDoorLNmw
import Derived.Test.YtdgmoiflahoihabGreatDoorKPickw
import Derived.Test.YtdgmoiflahoihabGreatDoorPQw
import Derived.Test.YtdgmoiflahoihabGreatDoorKText2w
import Derived.Laws.MakeOwn
import Derived.Test.YtdgmoiflahoihabGreatDoorLNtw
import Derived.Test.YtdgmoiflahoihabGreatDoorLRPw

namespace Go.Proofs.YtdgmoiflahoihabGreatDoor
open Go.RowKit
set_option linter.unusedSimpArgs false
set_option linter.unusedVariables false
theorem space_any (c : UInt8) (w : World) : Calls Tryz.prog 26 #[.int .u8 c.toNat] w fun e w' => e = .returned (.bool (blankB c)) ∧ w' = w := by
 by_cases h1 : c = 32
 ·subst h1
  go_enter Tryz.func26, Tryz.ntmps26
  go_wp2_with fail
  go_ret
  exact ⟨rfl, rfl⟩
 by_cases h2 : c = 10
 ·subst h2
  go_enter Tryz.func26, Tryz.ntmps26
  go_wp2_with fail
  go_ret
  exact ⟨rfl, rfl⟩
 have t1 : ((c.toNat : Int) == 32) = false := u8_ne (b := 32) h1
 have t2 : ((c.toNat : Int) == 10) = false := u8_ne (b := 10) h2
 have e : blankB c = false := by unfold blankB; simp [h1, h2]
 rw [e]
 go_enter Tryz.func26, Tryz.ntmps26
 go_wp2_with fail
 go_ret
 exact ⟨rfl, rfl⟩
theorem hdsL_no {sg c : UInt8} {r : List UInt8} (h : c ≠ sg) : hdsL sg (c :: r) = hdsL sg r := by
 show (if c = sg then _ else hdsL sg r) = _
 rw [if_neg h]
theorem hdsL_yes {sg c d : UInt8} {r : List UInt8} (h : c = sg) (hd : (r.dropWhile blankB).head? = some d) : hdsL sg (c :: r) = ((d.toNat : Int) - 97) :: hdsL sg r := by
 show (if c = sg then (match (r.dropWhile blankB).head? with | some d => ((d.toNat : Int) - 97) :: hdsL sg r | none => hdsL sg r) else hdsL sg r) = _
 rw [if_pos h, hd]
theorem hdsL_end {sg c : UInt8} {r : List UInt8} (h : c = sg) (hd : (r.dropWhile blankB).head? = none) : hdsL sg (c :: r) = hdsL sg r := by
 show (if c = sg then (match (r.dropWhile blankB).head? with | some d => ((d.toNat : Int) - 97) :: hdsL sg r | none => hdsL sg r) else hdsL sg r) = _
 rw [if_pos h, hd]
theorem byte_drop (s : ByteArray) (k : Nat) (h : k < s.size) : s.data.toList.drop k = s[k] :: s.data.toList.drop (k + 1) := by
 rw [List.drop_eq_getElem_cons (by simpa using h)]
 rfl
theorem key_new (w : World) (x : Int) (t : TypeId) : ∀ j u, ([.int .i64 x] : List Value)[j]? = some u → (w.alloc (.cells #[.int .i64 x] t)).cell? ((⟨w.heap.size, 0, none⟩ : Addr).add j) = some u := by
 intro j u h
 match j, h with
 | 0, h => simp at h; subst h; simp [go_sem, Addr.add]
 | j + 1, h => simp at h
theorem key_low {w W w2 : World} {ob : Obj} {row : Option Nat} (hB : Below w.heap.size w W) (hg : (W.alloc ob).grownBy w2 row) (hr : ∀ k, row = some k → w.heap.size ≤ k) : Below w.heap.size w w2 := by
 have hs := hB.size
 have hs2 : W.heap.size + 1 ≤ w2.heap.size := by have := hg.size; simpa using this
 exact ⟨hg.os.trans hB.os, hg.tape.trans hB.tape, hg.output.trans hB.output, by omega, fun k hk => ((hg.block k (by simp; omega) (fun e => by have := hr k e.symm; omega)).trans (Below.heap_alloc _ _ _ (by omega))).trans (hB.block k hk)⟩
set_option maxRecDepth 100000 in
set_option maxHeartbeats 4000000 in
theorem kheads_any (s : ByteArray) (sg : UInt8) (w : World) (hs : s.size ≤ 2000000) :
  Calls Tryz.prog 16 #[.string s, .int .u8 sg.toNat] w fun e w' => (∃ v, e = .returned v ∧ w'.ownsRow w.heap.size 3 1 v (hdsL sg s.data.toList).length (numRow (hdsL sg s.data.toList))) ∧ Below w.heap.size w w' := by
 obtain ⟨iV, hiV, hzV, hsV, hbV⟩ := parts_of_info infoInt3
 generalize hR : hdsL sg s.data.toList = R
 have HR : Hid (([] : List Int) ++ hdsL sg (s.data.toList.drop 0) = R) := hR
 clear hR
 go_enter Tryz.func16, Tryz.ntmps16
 go_wp2_with fail
 go_loopw [5, 6] (fun x y w' => ∃ (an : Option Addr) (nn cn i : Nat) (M : List Int), x = .slice an nn cn ∧ y = .int .i64 i ∧ i ≤ s.size ∧ M.length ≤ i ∧ Hid (w'.ownsRow w.heap.size 3 1 (.slice an nn cn) M.length (numRow M)) ∧ Hid (Below w.heap.size w w') ∧ Hid (M ++ hdsL sg (s.data.toList.drop i) = R)) (fun _ y _ => s.size - (intOf y).toNat)
 case atStart => exact ⟨none, 0, 0, 0, [], rfl, rfl, by omega, by simp, World.ownsRow_nil .., Below.refl _ _, HR⟩
 case round =>
  obtain ⟨an, nn, cn, i, M, rfl, rfl, hi, hM, HO, HW, HL⟩ := hrel
  have hws := HW.out.size
  by_cases hlt : i < s.size
  ·have hL := HL.out
   rw [byte_drop s i hlt] at hL
   by_cases hc : s[i] = sg
   ·have tc : ((s[i].toNat : Int) != (sg.toNat : Int)) = false := by rw [hc]; simp
    go_wp2_with fail
    go_loopw [7] (fun x w' => ∃ k : Nat, x = .int .i64 k ∧ i + 1 ≤ k ∧ k ≤ s.size ∧ w' = wr ∧ Hid ((s.data.toList.drop (i + 1)).dropWhile blankB = (s.data.toList.drop k).dropWhile blankB)) (fun x _ => s.size - (intOf x).toNat)
    case atStart => exact ⟨i + 1, by go_num, by omega, by omega, rfl, rfl⟩
    case round =>
     obtain ⟨k, rfl, hk1, hk2, rfl, HD⟩ := hrel
     by_cases hkl : k < s.size
     ·cases hb : blankB s[k]
      ·have hd : ((s.data.toList.drop (i + 1)).dropWhile blankB).head? = some s[k] := by
        rw [HD.out, byte_drop s k hkl, List.dropWhile_cons_of_neg (by simp [hb])]
        rfl
       have HN : Hid ((M ++ [(s[k].toNat : Int) - 97]) ++ hdsL sg (s.data.toList.drop (i + 1)) = R) := by
        show _ = _
        rw [hdsL_yes hc hd] at hL
        rw [← hL]
        simp
       have HSP : Hid (∀ w, Calls Tryz.prog 26 #[.int .u8 s[k].toNat] w fun e w' => e = .returned (.bool false) ∧ w' = w) := fun w => by have := space_any s[k] w; rw [hb] at this; exact this
       have m1 : M.length + 1 ≤ maxLen := by unfold maxLen; omega
       have m2 : (M.length + 1) * 8 ≤ 140737488355328 := by omega
       have m3 : ∀ ob, w.heap.size ≤ (wr.alloc ob).heap.size := fun ob => by simp; omega
       have HOB : Hid (∀ k, (Value.slice an nn cn).ownBlock = some k → w.heap.size ≤ k) := fun k hk => (HO.out.lt k hk).1
       have hpos : 0 < M.length + 1 := by omega
       have hde := s[k].toNat_lt
       clear hL HL HD hd hb
       go_wp2_with (first | (go_at_call 26; refine (HSP.out _).mono ?_; rintro e1 w1 ⟨rfl, hw1⟩; rw [hw1]; clear hw1) | (at_builtin; refine wpList_append_fresh rfl (.tmp 37) (.tmp 43) 22 rfl w.heap.size 3 iV (.int .i64 0) 1 8 Tryz.underlying22 hiV hzV hsV hbV rfl (by decide) (.slice an nn cn) M.length (numRow M) (by rfl) (by exact HO.out.alloc _) ⟨wr.heap.size, 0, none⟩ 1 1 [.int .i64 ((s[k].toNat : Int) - 97)] (by rfl) rfl (by exact key_new wr _ 3) (by intro q hq; simp at hq; subst hq; rfl) m1 m2 (m3 _) (by decide) ?_; intro v' w2 hown hgrow hfr; have hlow2 := key_low HW.out hgrow HOB.out; clear hfr hgrow; obtain ⟨gn, capn, rfl⟩ := Joins.ownsRow_form hown hpos; have HOWN : Hid _ := hown; have HLOW : Hid (Below w.heap.size w w2) := hlow2; clear hown hlow2))
       go_roundw
       case rel => exact ⟨some ⟨gn, 0, none⟩, _, capn, i + 1, M ++ [(s[k].toNat : Int) - 97], rfl, by go_num, by omega, by simp; omega, by show World.ownsRow _ _ _ _ _ _ _; rw [show numRow (M ++ [(s[k].toNat : Int) - 97]) = numRow M ++ [.int .i64 ((s[k].toNat : Int) - 97)] by simp [numRow], show (M ++ [(s[k].toNat : Int) - 97]).length = M.length + 1 by simp]; exact HOWN.out, HLOW, HN⟩
       case measure => simp [intOf]; omega
      ·have HD2 : Hid ((s.data.toList.drop (i + 1)).dropWhile blankB = (s.data.toList.drop (k + 1)).dropWhile blankB) := by
        show _ = _
        rw [HD.out, byte_drop s k hkl, List.dropWhile_cons_of_pos (by simp [hb])]
       have HSP : Hid (∀ w, Calls Tryz.prog 26 #[.int .u8 s[k].toNat] w fun e w' => e = .returned (.bool true) ∧ w' = w) := fun w => by have := space_any s[k] w; rw [hb] at this; exact this
       clear hb
       go_wp2_with (first | (go_at_call 26; refine (HSP.out _).mono ?_; rintro e1 w1 ⟨rfl, hw1⟩; rw [hw1]; clear hw1))
       go_roundw
       case rel => exact ⟨k + 1, by go_num, by omega, by omega, by trivial, HD2⟩
       case measure => simp [intOf]; omega
     ·have hd : ((s.data.toList.drop (i + 1)).dropWhile blankB).head? = none := by
       rw [HD.out, List.drop_of_length_le (by simp; omega)]
       rfl
      have HN : Hid (M ++ hdsL sg (s.data.toList.drop (i + 1)) = R) := by show _ = _; rw [hdsL_end hc hd] at hL; exact hL
      clear hL HL HD hd
      go_wp2_with fail
      go_roundw
      case rel => exact ⟨an, nn, cn, i + 1, M, rfl, by go_num, by omega, by omega, HO, HW, HN⟩
      case measure => simp [intOf]; omega
   ·have tc : ((s[i].toNat : Int) != (sg.toNat : Int)) = true := by
     simp only [bne_iff_ne, ne_eq]
     intro e
     exact hc (UInt8.toNat_inj.mp (by omega))
    have HN : Hid (M ++ hdsL sg (s.data.toList.drop (i + 1)) = R) := by show _ = _; rw [hdsL_no hc] at hL; exact hL
    clear hL HL
    go_wp2_with fail
    go_roundw
    case rel => exact ⟨an, nn, cn, i + 1, M, rfl, by go_num, by omega, by omega, HO, HW, HN⟩
    case measure => simp [intOf]; omega
  ·have HF : Hid (M = R) := by
    have := HL.out
    rw [List.drop_of_length_le (by simp; omega)] at this
    show _ = _
    simpa [hdsL] using this
   go_wp2_with fail
   go_ret
   rw [← HF.out]
   exact ⟨⟨_, rfl, HO.out⟩, HW.out⟩
end Go.Proofs.YtdgmoiflahoihabGreatDoor
namespace Go.Proofs.YtdgmoiflahoihabGreatDoor
open Go.RowKit
set_option linter.unusedSimpArgs false
set_option linter.unusedVariables false
def smpls : List (List UInt8) := [
 [62, 45, 55, 59],
 [63, 112, 58, 45, 59, 63, 99, 58, 67, 59, 116, 61, 112, 42, 51, 59, 62, 45, 116, 59, 62, 67, 32, 116, 45, 99, 59, 62, 45, 55, 59],
 [63, 97, 58, 65, 59, 63, 98, 58, 66, 59, 120, 61, 121, 59, 121, 61, 97, 59, 40, 98, 41, 123, 122, 61, 49, 59, 125, 123, 122, 61, 120, 47, 98, 59, 125, 62, 65, 66, 32, 122, 59, 62, 65, 32, 121, 59, 62, 45, 55, 59],
 [63, 97, 58, 65, 59, 94, 120, 58, 45, 61, 97, 47, 49, 48, 59, 62, 45, 120, 59, 62, 65, 32, 97, 45, 120, 59, 62, 45, 55, 59],
 [63, 97, 58, 45, 59, 63, 115, 58, 68, 59, 42, 51, 123, 97, 61, 97, 42, 50, 59, 40, 115, 60, 97, 41, 123, 62, 68, 32, 115, 59, 115, 61, 115, 45, 49, 59, 125, 125, 62, 45, 97, 59, 62, 45, 55, 59],
 [63, 113, 58, 45, 59, 63, 112, 58, 45, 59, 63, 107, 58, 66, 67, 59, 33, 109, 58, 66, 67, 68, 59, 116, 61, 113, 42, 112, 59, 40, 57, 60, 113, 41, 123, 116, 61, 116, 45, 116, 47, 49, 48, 59, 125, 62, 45, 116, 59, 109, 61, 116, 45, 107, 59, 40, 109, 60, 48, 41, 123, 62, 66, 67, 68, 32, 109, 59, 94, 119, 58, 66, 67, 68, 61, 109, 47, 48, 59, 125, 62, 66, 67, 68, 32, 119, 59, 62, 45, 55, 59],
 [63, 104, 58, 65, 59, 40, 104, 47, 48, 41, 123, 62, 65, 32, 49, 59, 125, 123, 62, 65, 32, 50, 59, 125, 40, 104, 41, 123, 117, 61, 49, 59, 125, 94, 118, 58, 65, 61, 117, 59, 62, 65, 32, 118, 43, 104, 59, 62, 45, 55, 59],
 [63, 97, 58, 65, 59, 63, 98, 58, 66, 59, 63, 99, 58, 67, 59, 63, 100, 58, 68, 59, 42, 50, 123, 101, 61, 102, 59, 102, 61, 103, 59, 103, 61, 97, 43, 98, 59, 125, 40, 101, 61, 102, 41, 123, 42, 50, 123, 62, 65, 66, 67, 68, 32, 99, 37, 100, 59, 125, 125, 62, 65, 66, 32, 102, 59, 62, 45, 55, 59]]
def smpl (i : Nat) : List UInt8 := smpls.getD i []
def smplS (i : Nat) : ByteArray := ⟨(smpl i).toArray⟩
def smGood (t : List UInt8) : Bool :=
 (checkP t).1 == 0 && (checkP t).2 == 0 && decide (4 ≤ t.length) && decide (t.length ≤ 400) &&
 match (parseR t).2.getLast? with
 | some tl => tl.1.kind == 2 && tl.1.place == t.length - 4 && tl.1.label == 0 && (match tl.1.parts with | [p] => p.op == 1 && p.num == 7 | _ => false)
 | none => false
set_option maxRecDepth 100000 in
theorem smpls_good : smpls.all smGood = true := by kernel_rfl
theorem smpl_good {i : Nat} (h : i < 8) : smGood (smpl i) = true := by
 have hl : smpls.length = 8 := rfl
 have := List.all_eq_true.mp smpls_good (smpl i) (by
  unfold smpl
  rw [List.getD_eq_getElem?_getD, List.getElem?_eq_getElem (by omega)]
  exact List.getElem_mem _)
 exact this
set_option maxRecDepth 100000 in
set_option maxHeartbeats 1000000 in
theorem sample_any (c : Int) (hc : -9223372036854775808 ≤ c ∧ c ≤ 9223372036854775807) (w : World) :
  Calls Tryz.prog 6 #[.int .i64 c] w fun e w' => e = .returned (.string (smplS (pickN c 8))) ∧ Below w.heap.size w w' := by
 have hlt := pickN_lt c (n := 8) (by decide)
 have HP : Hid (∀ w, Calls Tryz.prog 5 #[.int .i64 c, .int .i64 8] w fun e w' => e = .returned (.int .i64 (pickN c 8 : Nat)) ∧ w' = w) := fun w => pick_any c 8 hc (by decide) (by decide) w
 generalize hk : pickN c 8 = k at *
 have hcell : (w.alloc (.cells #[.string ⟨#[62, 45, 55, 59]⟩, .string ⟨#[63, 112, 58, 45, 59, 63, 99, 58, 67, 59, 116, 61, 112, 42, 51, 59, 62, 45, 116, 59, 62, 67, 32, 116, 45, 99, 59, 62, 45, 55, 59]⟩, .string ⟨#[63, 97, 58, 65, 59, 63, 98, 58, 66, 59, 120, 61, 121, 59, 121, 61, 97, 59, 40, 98, 41, 123, 122, 61, 49, 59, 125, 123, 122, 61, 120, 47, 98, 59, 125, 62, 65, 66, 32, 122, 59, 62, 65, 32, 121, 59, 62, 45, 55, 59]⟩, .string ⟨#[63, 97, 58, 65, 59, 94, 120, 58, 45, 61, 97, 47, 49, 48, 59, 62, 45, 120, 59, 62, 65, 32, 97, 45, 120, 59, 62, 45, 55, 59]⟩, .string ⟨#[63, 97, 58, 45, 59, 63, 115, 58, 68, 59, 42, 51, 123, 97, 61, 97, 42, 50, 59, 40, 115, 60, 97, 41, 123, 62, 68, 32, 115, 59, 115, 61, 115, 45, 49, 59, 125, 125, 62, 45, 97, 59, 62, 45, 55, 59]⟩, .string ⟨#[63, 113, 58, 45, 59, 63, 112, 58, 45, 59, 63, 107, 58, 66, 67, 59, 33, 109, 58, 66, 67, 68, 59, 116, 61, 113, 42, 112, 59, 40, 57, 60, 113, 41, 123, 116, 61, 116, 45, 116, 47, 49, 48, 59, 125, 62, 45, 116, 59, 109, 61, 116, 45, 107, 59, 40, 109, 60, 48, 41, 123, 62, 66, 67, 68, 32, 109, 59, 94, 119, 58, 66, 67, 68, 61, 109, 47, 48, 59, 125, 62, 66, 67, 68, 32, 119, 59, 62, 45, 55, 59]⟩, .string ⟨#[63, 104, 58, 65, 59, 40, 104, 47, 48, 41, 123, 62, 65, 32, 49, 59, 125, 123, 62, 65, 32, 50, 59, 125, 40, 104, 41, 123, 117, 61, 49, 59, 125, 94, 118, 58, 65, 61, 117, 59, 62, 65, 32, 118, 43, 104, 59, 62, 45, 55, 59]⟩, .string ⟨#[63, 97, 58, 65, 59, 63, 98, 58, 66, 59, 63, 99, 58, 67, 59, 63, 100, 58, 68, 59, 42, 50, 123, 101, 61, 102, 59, 102, 61, 103, 59, 103, 61, 97, 43, 98, 59, 125, 40, 101, 61, 102, 41, 123, 42, 50, 123, 62, 65, 66, 67, 68, 32, 99, 37, 100, 59, 125, 125, 62, 65, 66, 32, 102, 59, 62, 45, 55, 59]⟩] 46)).cell? ⟨w.heap.size, k, none⟩ = some (.string (smplS k)) := by
  rw [cell_of_row _ _ _ _ _ _ (heap_alloc_new w _)]
  match k, hlt with
  | 0, _ => rfl
  | 1, _ => rfl
  | 2, _ => rfl
  | 3, _ => rfl
  | 4, _ => rfl
  | 5, _ => rfl
  | 6, _ => rfl
  | 7, _ => rfl
 clear hk
 generalize smplS k = sk at *
 go_enter Tryz.func6, Tryz.ntmps6
 go_wp2_with fail
 refine (HP.out _).mono ?_
 rintro e w1 ⟨rfl, hw1⟩
 rw [hw1]
 clear hw1
 have hB : Below w.heap.size w (w.alloc (.cells #[.string ⟨#[62, 45, 55, 59]⟩, .string ⟨#[63, 112, 58, 45, 59, 63, 99, 58, 67, 59, 116, 61, 112, 42, 51, 59, 62, 45, 116, 59, 62, 67, 32, 116, 45, 99, 59, 62, 45, 55, 59]⟩, .string ⟨#[63, 97, 58, 65, 59, 63, 98, 58, 66, 59, 120, 61, 121, 59, 121, 61, 97, 59, 40, 98, 41, 123, 122, 61, 49, 59, 125, 123, 122, 61, 120, 47, 98, 59, 125, 62, 65, 66, 32, 122, 59, 62, 65, 32, 121, 59, 62, 45, 55, 59]⟩, .string ⟨#[63, 97, 58, 65, 59, 94, 120, 58, 45, 61, 97, 47, 49, 48, 59, 62, 45, 120, 59, 62, 65, 32, 97, 45, 120, 59, 62, 45, 55, 59]⟩, .string ⟨#[63, 97, 58, 45, 59, 63, 115, 58, 68, 59, 42, 51, 123, 97, 61, 97, 42, 50, 59, 40, 115, 60, 97, 41, 123, 62, 68, 32, 115, 59, 115, 61, 115, 45, 49, 59, 125, 125, 62, 45, 97, 59, 62, 45, 55, 59]⟩, .string ⟨#[63, 113, 58, 45, 59, 63, 112, 58, 45, 59, 63, 107, 58, 66, 67, 59, 33, 109, 58, 66, 67, 68, 59, 116, 61, 113, 42, 112, 59, 40, 57, 60, 113, 41, 123, 116, 61, 116, 45, 116, 47, 49, 48, 59, 125, 62, 45, 116, 59, 109, 61, 116, 45, 107, 59, 40, 109, 60, 48, 41, 123, 62, 66, 67, 68, 32, 109, 59, 94, 119, 58, 66, 67, 68, 61, 109, 47, 48, 59, 125, 62, 66, 67, 68, 32, 119, 59, 62, 45, 55, 59]⟩, .string ⟨#[63, 104, 58, 65, 59, 40, 104, 47, 48, 41, 123, 62, 65, 32, 49, 59, 125, 123, 62, 65, 32, 50, 59, 125, 40, 104, 41, 123, 117, 61, 49, 59, 125, 94, 118, 58, 65, 61, 117, 59, 62, 65, 32, 118, 43, 104, 59, 62, 45, 55, 59]⟩, .string ⟨#[63, 97, 58, 65, 59, 63, 98, 58, 66, 59, 63, 99, 58, 67, 59, 63, 100, 58, 68, 59, 42, 50, 123, 101, 61, 102, 59, 102, 61, 103, 59, 103, 61, 97, 43, 98, 59, 125, 40, 101, 61, 102, 41, 123, 42, 50, 123, 62, 65, 66, 67, 68, 32, 99, 37, 100, 59, 125, 125, 62, 65, 66, 32, 102, 59, 62, 45, 55, 59]⟩] 46)) := (Below.refl _ _).alloc (Nat.le_refl _) _
 generalize (w.alloc (.cells #[.string ⟨#[62, 45, 55, 59]⟩, .string ⟨#[63, 112, 58, 45, 59, 63, 99, 58, 67, 59, 116, 61, 112, 42, 51, 59, 62, 45, 116, 59, 62, 67, 32, 116, 45, 99, 59, 62, 45, 55, 59]⟩, .string ⟨#[63, 97, 58, 65, 59, 63, 98, 58, 66, 59, 120, 61, 121, 59, 121, 61, 97, 59, 40, 98, 41, 123, 122, 61, 49, 59, 125, 123, 122, 61, 120, 47, 98, 59, 125, 62, 65, 66, 32, 122, 59, 62, 65, 32, 121, 59, 62, 45, 55, 59]⟩, .string ⟨#[63, 97, 58, 65, 59, 94, 120, 58, 45, 61, 97, 47, 49, 48, 59, 62, 45, 120, 59, 62, 65, 32, 97, 45, 120, 59, 62, 45, 55, 59]⟩, .string ⟨#[63, 97, 58, 45, 59, 63, 115, 58, 68, 59, 42, 51, 123, 97, 61, 97, 42, 50, 59, 40, 115, 60, 97, 41, 123, 62, 68, 32, 115, 59, 115, 61, 115, 45, 49, 59, 125, 125, 62, 45, 97, 59, 62, 45, 55, 59]⟩, .string ⟨#[63, 113, 58, 45, 59, 63, 112, 58, 45, 59, 63, 107, 58, 66, 67, 59, 33, 109, 58, 66, 67, 68, 59, 116, 61, 113, 42, 112, 59, 40, 57, 60, 113, 41, 123, 116, 61, 116, 45, 116, 47, 49, 48, 59, 125, 62, 45, 116, 59, 109, 61, 116, 45, 107, 59, 40, 109, 60, 48, 41, 123, 62, 66, 67, 68, 32, 109, 59, 94, 119, 58, 66, 67, 68, 61, 109, 47, 48, 59, 125, 62, 66, 67, 68, 32, 119, 59, 62, 45, 55, 59]⟩, .string ⟨#[63, 104, 58, 65, 59, 40, 104, 47, 48, 41, 123, 62, 65, 32, 49, 59, 125, 123, 62, 65, 32, 50, 59, 125, 40, 104, 41, 123, 117, 61, 49, 59, 125, 94, 118, 58, 65, 61, 117, 59, 62, 65, 32, 118, 43, 104, 59, 62, 45, 55, 59]⟩, .string ⟨#[63, 97, 58, 65, 59, 63, 98, 58, 66, 59, 63, 99, 58, 67, 59, 63, 100, 58, 68, 59, 42, 50, 123, 101, 61, 102, 59, 102, 61, 103, 59, 103, 61, 97, 43, 98, 59, 125, 40, 101, 61, 102, 41, 123, 42, 50, 123, 62, 65, 66, 67, 68, 32, 99, 37, 100, 59, 125, 125, 62, 65, 66, 32, 102, 59, 62, 45, 55, 59]⟩] 46)) = W at *
 go_wp2_with fail
 go_ret
 exact ⟨rfl, hB⟩
end Go.Proofs.YtdgmoiflahoihabGreatDoor
namespace Go.Proofs.YtdgmoiflahoihabGreatDoor
open Go.RowKit
set_option linter.unusedSimpArgs false
set_option linter.unusedVariables false
def fillN (zs : List Int) (n : Nat) : List Int := zs.take n ++ List.replicate (n - zs.length) 0
theorem fillN_len (zs : List Int) (n : Nat) : (fillN zs n).length = n := by
 unfold fillN
 simp
 omega
theorem fillN_ok {zs : List Int} (h : FsOk zs) (n : Nat) : FsOk (fillN zs n) := by
 intro x hx
 unfold fillN at hx
 rcases List.mem_append.mp hx with h1 | h1
 ·exact h x (List.mem_of_mem_take h1)
 ·have := List.eq_of_mem_replicate h1
  rw [this]
  decide
def fillTo (zs : List Int) (n i : Nat) : List Int := zs.take i ++ List.replicate (n - i) 0
theorem fillTo_set {zs : List Int} {n i : Nat} (hi : i < n) (hz : i < zs.length) : (fillTo zs n i).set i zs[i] = fillTo zs n (i + 1) := by
 unfold fillTo
 obtain ⟨m, hm⟩ : ∃ m, n - i = m + 1 := ⟨n - i - 1, by omega⟩
 have e : (zs.take i).length = i := by simp; omega
 rw [hm, List.replicate_succ, show n - (i + 1) = m by omega, List.take_succ_eq_append_getElem hz, List.set_append_right _ _ (by omega), e, Nat.sub_self, List.set_cons_zero, List.append_assoc]
 rfl
theorem fillTo_end {zs : List Int} {n i : Nat} (h1 : i ≤ n) (h2 : i ≤ zs.length) (h : i = n ∨ i = zs.length) : fillTo zs n i = fillN zs n := by
 unfold fillTo fillN
 rcases h with rfl | rfl
 ·rw [show i - i = 0 by omega, show i - zs.length = 0 by omega]
 ·rw [List.take_of_length_le (Nat.le_refl _), List.take_of_length_le (by omega)]
theorem make_noughts (n : Nat) (hn : n ≤ 1000000) (w : World) : (Instr.makeSlice 22 (.int .i64 n) (.int .i64 n)).run Tryz.prog w = .ok (.slice (some ⟨w.heap.size, 0, none⟩) n n) (w.alloc (.cells (numRow (List.replicate n 0)).toArray 3)) := by
 obtain ⟨i, hi, hz, hs, hb⟩ := parts_of_info infoInt3
 have k := run_make (P := Tryz.prog) w 22 3 i _ Tryz.underlying22 hi hz .i64 .i64 (n : Int) (n : Int) (by omega) (by omega) (by rw [hb]; omega) (by omega)
 rw [hs, Int.toNat_natCast, Nat.mul_one] at k
 have e : madeCells (Value.int .i64 0).cells n = (numRow (List.replicate n 0)).toArray := by
  apply Array.ext
  ·simp [madeCells, numRow]
  ·intro k h1 h2
   simp [madeCells, numRow, Value.cells, Nat.mod_one]
 rw [e] at k
 exact k
theorem row_set {w : World} {g i : Nat} {l : List Int} {x : Int} {t : TypeId} (h : w.heap[g]? = some (.cells (numRow l).toArray t (0, 0))) : (w.setCell ⟨g, i, none⟩ (.int .i64 x)).heap[g]? = some (.cells (numRow (l.set i x)).toArray t (0, 0)) := by
 rw [setCell_eq_setRow w g _ _ _ _ _ h, setRow_heap w g _ _ _ _ h]
 simp [numRow]
theorem num_row {w : World} {g : Nat} {l : List Int} {t : TypeId} (h : w.heap[g]? = some (.cells (numRow l).toArray t (0, 0))) : NumCells w (some ⟨g, 0, none⟩) g 0 l := num_of_row (r := []) (by simpa using h)
set_option maxRecDepth 100000 in
set_option maxHeartbeats 2000000 in
theorem kfilled_any (zs : List Int) (af : Option Addr) (gf of capf n : Nat) (w : World) (hf : NumCells w af gf of zs) (hn : n ≤ 1000000) (hz : zs.length ≤ 9223372036854775807) :
  Calls Tryz.prog 9 #[.slice af zs.length capf, .int .i64 n] w fun e w' => e = .returned (.slice (some ⟨w.heap.size, 0, none⟩) n n) ∧ w'.heap[w.heap.size]? = some (.cells (numRow (fillN zs n)).toArray 3 (0, 0)) ∧ Below w.heap.size w w' := by
 have hmk := make_noughts n hn w
 have HF : Hid (NumCells w af gf of zs) := hf
 have HR0 : Hid ((w.alloc (.cells (numRow (List.replicate n 0)).toArray 3)).heap[w.heap.size]? = some (.cells (numRow (fillTo zs n 0)).toArray 3 (0, 0))) := by
  show _ = _
  rw [heap_alloc_new]
  simp [fillTo]
 have HB0 : Hid (Below w.heap.size w (w.alloc (.cells (numRow (List.replicate n 0)).toArray 3))) := (Below.refl _ _).alloc (Nat.le_refl _) _
 clear hf
 go_enter Tryz.func9, Tryz.ntmps9
 go_wp2_with fail
 go_loopw [6] (fun x w' => ∃ i : Nat, x = .int .i64 i ∧ i ≤ n ∧ i ≤ zs.length ∧ Hid (w'.heap[w.heap.size]? = some (.cells (numRow (fillTo zs n i)).toArray 3 (0, 0))) ∧ Hid (Below w.heap.size w w')) (fun x _ => n - (intOf x).toNat)
 case atStart => exact ⟨0, rfl, by omega, by omega, HR0, HB0⟩
 case round =>
  obtain ⟨i, rfl, hi, hiz, HR, HB⟩ := hrel
  have hgl : w.heap.size < wr.heap.size := (Array.getElem?_eq_some_iff.mp HR.out).1
  by_cases hin : i < n
  ·have t1 : decide ((i : Int) < (n : Int)) = true := by simp; omega
   by_cases hil : i < zs.length
   ·have t2 : decide ((i : Int) < (zs.length : Int)) = true := by simp; omega
    obtain ⟨rfl, hg, c0⟩ := HF.out.below HB.out i hil
    have hne : ¬ gf = w.heap.size := by have := (HF.out i hil).2.1; omega
    obtain ⟨_, _, d0⟩ := num_row HR.out i (by unfold fillTo; simp; omega)
    rw [Nat.zero_add] at d0
    have fz : ∀ o, wr.frozen? ⟨w.heap.size, o, none⟩ = false := fun o => by have := HR.out; simp [World.frozen?, this]
    have HR2 : Hid ((wr.setCell ⟨w.heap.size, i, none⟩ (.int .i64 zs[i])).heap[w.heap.size]? = some (.cells (numRow (fillTo zs n (i + 1))).toArray 3 (0, 0))) := by
     have := row_set (i := i) (x := zs[i]) HR.out
     rw [fillTo_set hin hil] at this
     exact this
    have HB2 : Hid (Below w.heap.size w (wr.setCell ⟨w.heap.size, i, none⟩ (.int .i64 zs[i]))) := HB.out.setCell (Nat.le_refl _) _
    have i0 : (0 : Int) ≤ (i : Int) := by omega
    have i1 : (i : Int) < (n : Int) := by omega
    have i2 : (i : Int) < (zs.length : Int) := by omega
    clear HR
    generalize zs[i] = z at *
    go_wp2_with fail
    go_roundw
    case rel => exact ⟨i + 1, by go_num, by omega, by omega, HR2, HB2⟩
    case measure => simp [intOf]; omega
   ·have t2 : decide ((i : Int) < (zs.length : Int)) = false := by simp; omega
    go_wp2_with fail
    go_ret
    rw [← fillTo_end hi hiz (.inr (by omega))]
    exact ⟨rfl, HR.out, HB.out⟩
  ·have t1 : decide ((i : Int) < (n : Int)) = false := by simp; omega
   go_wp2_with fail
   go_ret
   rw [← fillTo_end hi hiz (.inl (by omega))]
   exact ⟨rfl, HR.out, HB.out⟩
end Go.Proofs.YtdgmoiflahoihabGreatDoor
namespace Go.Proofs.YtdgmoiflahoihabGreatDoor
open Go.RowKit
set_option linter.unusedSimpArgs false
set_option linter.unusedVariables false
theorem doL_snoc {α : Type} (rec : SR → List α → SR) : ∀ (l : List (Core × List α × List α)) (s : SR) (q : Core × List α × List α), doL rec s (l ++ [q]) = doT rec (doL rec s l) q
 | [], s, q => rfl
 | x :: l, s, q => doL_snoc rec l (doT rec s x) q
theorem smpl_notes {t : List UInt8} (h : smGood t = true) : (checkP t).1 = 0 ∧ 4 ≤ t.length ∧ t.length ≤ 400 ∧ ∀ fs : List Int, fs.length = countF (parseH t).2 → ∃ N, (runP t fs).2 = N ++ [⟨0, t.length - 4, 0, ⟨7, 0⟩⟩] := by
 unfold smGood at h
 simp only [Bool.and_eq_true, beq_iff_eq, decide_eq_true_eq] at h
 obtain ⟨⟨⟨⟨h1, _⟩, h2⟩, h3⟩, h4⟩ := h
 refine ⟨h1, h2, h3, fun fs hf => ?_⟩
 cases hl : (parseR t).2.getLast? with
 | none => rw [hl] at h4; cases h4
 | some tl =>
  rw [hl] at h4
  simp only [Bool.and_eq_true, beq_iff_eq] at h4
  obtain ⟨⟨⟨k1, k2⟩, k3⟩, k4⟩ := h4
  have hp : ∃ p : Pt, tl.1.parts = [p] ∧ p.op = 1 ∧ p.num = 7 := by
   split at k4
   ·rename_i p hp
    simp only [Bool.and_eq_true, beq_iff_eq] at k4
    exact ⟨p, hp, k4.1, k4.2⟩
   ·cases k4
  obtain ⟨p, hp, hp1, hp7⟩ := hp
  have hd : (parseR t).2 = (parseR t).2.dropLast ++ [tl] := by
   have hne : (parseR t).2 ≠ [] := by intro e; rw [e] at hl; cases hl
   have e2 : (parseR t).2.getLast hne = tl := by
    rw [List.getLast?_eq_some_getLast hne] at hl
    cases hl
    rfl
   rw [← e2]
   exact (List.dropLast_concat_getLast hne).symm
  have hv : ∀ names, valueV names tl.1.parts = ⟨7, 0⟩ := fun names => by
   rw [hp]
   unfold valueV
   show topV ((takeV names p []).2 ++ [(takeV names p []).1]) = _
   unfold takeV
   rw [if_pos hp1, hp7]
   rfl
  unfold runP
  rw [if_neg (by simpa using h1), if_neg (by simpa using hf), hd]
  refine ⟨(doL (doF 8) (fillV (parseH t).2 fs vals0, []) (parseR t).2.dropLast).2, ?_⟩
  refine (congrArg Prod.snd (doL_snoc (doF 8) (show List (Core × List (RT 8) × List (RT 8)) from (parseR t).2.dropLast) (fillV (parseH t).2 fs vals0, []) tl)).trans ?_
  unfold doT
  rw [if_neg (by omega), if_neg (by omega), if_pos k1]
  simp only
  rw [hv, k2, k3]
end Go.Proofs.YtdgmoiflahoihabGreatDoor
