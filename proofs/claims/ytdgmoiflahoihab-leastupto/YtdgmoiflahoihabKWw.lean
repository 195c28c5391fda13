import Derived.Test.YtdgmoiflahoihabLNmw
import Derived.Test.YtdgmoiflahoihabKPickw
import Derived.Test.YtdgmoiflahoihabPQw
import Derived.Test.YtdgmoiflahoihabKTopw
import Derived.Laws.MakeOwn

namespace Go.Proofs.Ytdgmoiflahoihab
open Go.RowKit
set_option linter.unusedSimpArgs false
set_option linter.unusedVariables false
theorem space_any (c : UInt8) (w : World) : Calls Try.prog 23 #[.int .u8 c.toNat] w fun e w' => e = .returned (.bool (blankB c)) ∧ w' = w := by
 by_cases h1 : c = 32
 ·subst h1
  go_enter Try.func23, Try.ntmps23
  go_wp2_with fail
  go_ret
  exact ⟨rfl, rfl⟩
 by_cases h2 : c = 10
 ·subst h2
  go_enter Try.func23, Try.ntmps23
  go_wp2_with fail
  go_ret
  exact ⟨rfl, rfl⟩
 have t1 : ((c.toNat : Int) == 32) = false := u8_ne (b := 32) h1
 have t2 : ((c.toNat : Int) == 10) = false := u8_ne (b := 10) h2
 have e : blankB c = false := by unfold blankB; simp [h1, h2]
 rw [e]
 go_enter Try.func23, Try.ntmps23
 go_wp2_with fail
 go_ret
 exact ⟨rfl, rfl⟩
theorem hdsL_len (sg : UInt8) : ∀ l : List UInt8, (hdsL sg l).length ≤ l.length
 | [] => by simp [hdsL]
 | c :: r => by
  have ih := hdsL_len sg r
  unfold hdsL
  split
  ·split
   ·simp; omega
   ·simp; omega
  ·simp; omega
theorem hdsL_no {sg c : UInt8} {r : List UInt8} (h : c ≠ sg) : hdsL sg (c :: r) = hdsL sg r := by
 show (if c = sg then _ else hdsL sg r) = _
 rw [if_neg h]
theorem hdsL_yes {sg c d : UInt8} {r : List UInt8} (h : c = sg) (hd : (r.dropWhile blankB).head? = some d) : hdsL sg (c :: r) = ((d.toNat : Int) - 97) :: hdsL sg r := by
 show (if c = sg then (match (r.dropWhile blankB).head? with | some d => ((d.toNat : Int) - 97) :: hdsL sg r | none => hdsL sg r) else hdsL sg r) = _
 rw [if_pos h, hd]
theorem hdsL_end {sg c : UInt8} {r : List UInt8} (h : c = sg) (hd : (r.dropWhile blankB).head? = none) : hdsL sg (c :: r) = hdsL sg r := by
 show (if c = sg then (match (r.dropWhile blankB).head? with | some d => ((d.toNat : Int) - 97) :: hdsL sg r | none => hdsL sg r) else hdsL sg r) = _
 rw [if_pos h, hd]
theorem byte_drop (s : ByteArray) (k : Nat) (h : k < s.size) : s.data.toList.drop k = s[k] :: s.data.toList.drop (k + 1) := by
 rw [List.drop_eq_getElem_cons (by simpa using h)]
 rfl
theorem key_new (w : World) (x : Int) (t : TypeId) : ∀ j u, ([.int .i64 x] : List Value)[j]? = some u → (w.alloc (.cells #[.int .i64 x] t)).cell? ((⟨w.heap.size, 0, none⟩ : Addr).add j) = some u := by
 intro j u h
 match j, h with
 | 0, h => simp at h; subst h; simp [go_sem, Addr.add]
 | j + 1, h => simp at h
theorem key_low {w W w2 : World} {ob : Obj} {row : Option Nat} (hB : Below w.heap.size w W) (hg : (W.alloc ob).grownBy w2 row) (hr : ∀ k, row = some k → w.heap.size ≤ k) : Below w.heap.size w w2 := by
 have hs := hB.size
 have hs2 : W.heap.size + 1 ≤ w2.heap.size := by have := hg.size; simpa using this
 exact ⟨hg.os.trans hB.os, hg.tape.trans hB.tape, hg.output.trans hB.output, by omega, fun k hk => ((hg.block k (by simp; omega) (fun e => by have := hr k e.symm; omega)).trans (Below.heap_alloc _ _ _ (by omega))).trans (hB.block k hk)⟩
set_option maxRecDepth 100000 in
set_option maxHeartbeats 4000000 in
theorem kheads_any (s : ByteArray) (sg : UInt8) (w : World) (hs : s.size ≤ 2000000) :
  Calls Try.prog 15 #[.string s, .int .u8 sg.toNat] w fun e w' => (∃ v, e = .returned v ∧ w'.ownsRow w.heap.size 3 1 v (hdsL sg s.data.toList).length (numRow (hdsL sg s.data.toList))) ∧ Below w.heap.size w w' := by
 obtain ⟨iV, hiV, hzV, hsV, hbV⟩ := parts_of_info infoInt3
 generalize hR : hdsL sg s.data.toList = R
 have HR : Hid (([] : List Int) ++ hdsL sg (s.data.toList.drop 0) = R) := hR
 clear hR
 go_enter Try.func15, Try.ntmps15
 go_wp2_with fail
 go_loopw [5, 6] (fun x y w' => ∃ (an : Option Addr) (nn cn i : Nat) (M : List Int), x = .slice an nn cn ∧ y = .int .i64 i ∧ i ≤ s.size ∧ M.length ≤ i ∧ Hid (w'.ownsRow w.heap.size 3 1 (.slice an nn cn) M.length (numRow M)) ∧ Hid (Below w.heap.size w w') ∧ Hid (M ++ hdsL sg (s.data.toList.drop i) = R)) (fun _ y _ => s.size - (intOf y).toNat)
 case atStart => exact ⟨none, 0, 0, 0, [], rfl, rfl, by omega, by simp, World.ownsRow_nil .., Below.refl _ _, HR⟩
 case round =>
  obtain ⟨an, nn, cn, i, M, rfl, rfl, hi, hM, HO, HW, HL⟩ := hrel
  have hws := HW.out.size
  by_cases hlt : i < s.size
  ·have hL := HL.out
   rw [byte_drop s i hlt] at hL
   by_cases hc : s[i] = sg
   ·have tc : ((s[i].toNat : Int) != (sg.toNat : Int)) = false := by rw [hc]; simp
    go_wp2_with fail
    go_loopw [7] (fun x w' => ∃ k : Nat, x = .int .i64 k ∧ i + 1 ≤ k ∧ k ≤ s.size ∧ w' = wr ∧ Hid ((s.data.toList.drop (i + 1)).dropWhile blankB = (s.data.toList.drop k).dropWhile blankB)) (fun x _ => s.size - (intOf x).toNat)
    case atStart => exact ⟨i + 1, by go_num, by omega, by omega, rfl, rfl⟩
    case round =>
     obtain ⟨k, rfl, hk1, hk2, rfl, HD⟩ := hrel
     by_cases hkl : k < s.size
     ·cases hb : blankB s[k]
      ·have hd : ((s.data.toList.drop (i + 1)).dropWhile blankB).head? = some s[k] := by
        rw [HD.out, byte_drop s k hkl, List.dropWhile_cons_of_neg (by simp [hb])]
        rfl
       have HN : Hid ((M ++ [(s[k].toNat : Int) - 97]) ++ hdsL sg (s.data.toList.drop (i + 1)) = R) := by
        show _ = _
        rw [hdsL_yes hc hd] at hL
        rw [← hL]
        simp
       have HSP : Hid (∀ w, Calls Try.prog 23 #[.int .u8 s[k].toNat] w fun e w' => e = .returned (.bool false) ∧ w' = w) := fun w => by have := space_any s[k] w; rw [hb] at this; exact this
       have m1 : M.length + 1 ≤ maxLen := by unfold maxLen; omega
       have m2 : (M.length + 1) * 8 ≤ 140737488355328 := by omega
       have m3 : ∀ ob, w.heap.size ≤ (wr.alloc ob).heap.size := fun ob => by simp; omega
       have HOB : Hid (∀ k, (Value.slice an nn cn).ownBlock = some k → w.heap.size ≤ k) := fun k hk => (HO.out.lt k hk).1
       have hpos : 0 < M.length + 1 := by omega
       have hde := s[k].toNat_lt
       clear hL HL HD hd hb
       go_wp2_with (first | (go_at_call 23; refine (HSP.out _).mono ?_; rintro e1 w1 ⟨rfl, hw1⟩; rw [hw1]; clear hw1) | (at_builtin; refine wpList_append_fresh rfl (.tmp 37) (.tmp 43) 22 rfl w.heap.size 3 iV (.int .i64 0) 1 8 Try.underlying22 hiV hzV hsV hbV rfl (by decide) (.slice an nn cn) M.length (numRow M) (by rfl) (by exact HO.out.alloc _) ⟨wr.heap.size, 0, none⟩ 1 1 [.int .i64 ((s[k].toNat : Int) - 97)] (by rfl) rfl (by exact key_new wr _ 3) (by intro q hq; simp at hq; subst hq; rfl) m1 m2 (m3 _) (by decide) ?_; intro v' w2 hown hgrow hfr; have hlow2 := key_low HW.out hgrow HOB.out; clear hfr hgrow; obtain ⟨gn, capn, rfl⟩ := Joins.ownsRow_form hown hpos; have HOWN : Hid _ := hown; have HLOW : Hid (Below w.heap.size w w2) := hlow2; clear hown hlow2))
       go_roundw
       case rel => exact ⟨some ⟨gn, 0, none⟩, _, capn, i + 1, M ++ [(s[k].toNat : Int) - 97], rfl, by go_num, by omega, by simp; omega, by show World.ownsRow _ _ _ _ _ _ _; rw [show numRow (M ++ [(s[k].toNat : Int) - 97]) = numRow M ++ [.int .i64 ((s[k].toNat : Int) - 97)] by simp [numRow], show (M ++ [(s[k].toNat : Int) - 97]).length = M.length + 1 by simp]; exact HOWN.out, HLOW, HN⟩
       case measure => simp [intOf]; omega
      ·have HD2 : Hid ((s.data.toList.drop (i + 1)).dropWhile blankB = (s.data.toList.drop (k + 1)).dropWhile blankB) := by
        show _ = _
        rw [HD.out, byte_drop s k hkl, List.dropWhile_cons_of_pos (by simp [hb])]
       have HSP : Hid (∀ w, Calls Try.prog 23 #[.int .u8 s[k].toNat] w fun e w' => e = .returned (.bool true) ∧ w' = w) := fun w => by have := space_any s[k] w; rw [hb] at this; exact this
       clear hb
       go_wp2_with (first | (go_at_call 23; refine (HSP.out _).mono ?_; rintro e1 w1 ⟨rfl, hw1⟩; rw [hw1]; clear hw1))
       go_roundw
       case rel => exact ⟨k + 1, by go_num, by omega, by omega, by trivial, HD2⟩
       case measure => simp [intOf]; omega
     ·have hd : ((s.data.toList.drop (i + 1)).dropWhile blankB).head? = none := by
       rw [HD.out, List.drop_of_length_le (by simp; omega)]
       rfl
      have HN : Hid (M ++ hdsL sg (s.data.toList.drop (i + 1)) = R) := by show _ = _; rw [hdsL_end hc hd] at hL; exact hL
      clear hL HL HD hd
      go_wp2_with fail
      go_roundw
      case rel => exact ⟨an, nn, cn, i + 1, M, rfl, by go_num, by omega, by omega, HO, HW, HN⟩
      case measure => simp [intOf]; omega
   ·have tc : ((s[i].toNat : Int) != (sg.toNat : Int)) = true := by
     simp only [bne_iff_ne, ne_eq]
     intro e
     exact hc (UInt8.toNat_inj.mp (by omega))
    have HN : Hid (M ++ hdsL sg (s.data.toList.drop (i + 1)) = R) := by show _ = _; rw [hdsL_no hc] at hL; exact hL
    clear hL HL
    go_wp2_with fail
    go_roundw
    case rel => exact ⟨an, nn, cn, i + 1, M, rfl, by go_num, by omega, by omega, HO, HW, HN⟩
    case measure => simp [intOf]; omega
  ·have HF : Hid (M = R) := by
    have := HL.out
    rw [List.drop_of_length_le (by simp; omega)] at this
    show _ = _
    simpa [hdsL] using this
   go_wp2_with fail
   go_ret
   rw [← HF.out]
   exact ⟨⟨_, rfl, HO.out⟩, HW.out⟩
set_option maxRecDepth 100000 in
set_option maxHeartbeats 1000000 in
theorem usable_any (s : ByteArray) (w : World) (hs : s.size ≤ 2000000) :
  Calls Try.prog 10 #[.string s] w fun e w' => e = .returned (.tuple #[.int .i64 ((hdsL 63 s.data.toList).length : Nat), .bool ((checkP s.data.toList).1 == 0)]) ∧ Below w.heap.size w w' := by
 have hsl : s.data.toList.length = s.size := by simp
 have HC : Hid (∀ w, Calls Try.prog 12 #[.string s] w fun e w' => e = .returned (.tuple #[.int .i64 (checkP s.data.toList).1, .int .i64 (checkP s.data.toList).2]) ∧ Below w.heap.size w w') := fun w => tariffCheck_any s w (by unfold maxLen; omega) (fun h hb => parse_ok (by omega) hb)
 have HH : Hid (∀ w, Calls Try.prog 15 #[.string s, .int .u8 63] w fun e w' => (∃ v, e = .returned v ∧ w'.ownsRow w.heap.size 3 1 v (hdsL 63 s.data.toList).length (numRow (hdsL 63 s.data.toList))) ∧ Below w.heap.size w w') := fun w => kheads_any s 63 w hs
 generalize hdsL 63 s.data.toList = L at *
 generalize checkP s.data.toList = y at *
 obtain ⟨y1, y2⟩ := y
 simp only at HC
 go_enter Try.func10, Try.ntmps10
 go_wp2_with (first | (go_at_call 12; refine (HC.out _).mono ?_; rintro e w1 ⟨rfl, hb1⟩; have HB1 : Hid (Below w.heap.size w w1) := hb1; clear hb1) | (go_at_call 15; refine (HH.out _).mono ?_; rintro e w2 ⟨⟨v, rfl, ho⟩, hb2⟩; obtain ⟨ao, g, cap, rfl, hn⟩ := nums_form ho; have HB2 : Hid (Below w1.heap.size w1 w2) := hb2; clear hb2 ho hn))
 go_ret2
 exact ⟨rfl, HB1.out.trans (HB2.out.mono HB1.out.size)⟩
end Go.Proofs.Ytdgmoiflahoihab
