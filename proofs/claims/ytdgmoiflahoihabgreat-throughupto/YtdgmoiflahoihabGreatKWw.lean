import Derived.Test.YtdgmoiflahoihabGreatXPw
import Derived.Test.YtdgmoiflahoihabGreatKPickw
import Derived.Test.YtdgmoiflahoihabGreatPQw
import Derived.Test.YtdgmoiflahoihabGreatKCheckw
import Derived.Laws.MakeOwn

namespace Go.Proofs.YtdgmoiflahoihabGreat
open Go.RowKit
set_option linter.unusedSimpArgs false
set_option linter.unusedVariables false
theorem space_any (c : UInt8) (w : World) : Calls Tryz.prog 17 #[.int .u8 c.toNat] w fun e w' => e = .returned (.bool (blankB c)) ∧ w' = w := by
 by_cases h1 : c = 32
 ·subst h1
  go_enter Tryz.func17, Tryz.ntmps17
  go_wp2_with fail
  go_ret
  exact ⟨rfl, rfl⟩
 by_cases h2 : c = 10
 ·subst h2
  go_enter Tryz.func17, Tryz.ntmps17
  go_wp2_with fail
  go_ret
  exact ⟨rfl, rfl⟩
 have t1 : ((c.toNat : Int) == 32) = false := u8_ne (b := 32) h1
 have t2 : ((c.toNat : Int) == 10) = false := u8_ne (b := 10) h2
 have e : blankB c = false := by unfold blankB; simp [h1, h2]
 rw [e]
 go_enter Tryz.func17, Tryz.ntmps17
 go_wp2_with fail
 go_ret
 exact ⟨rfl, rfl⟩
theorem hdsL_no {sg c : UInt8} {r : List UInt8} (h : c ≠ sg) : hdsL sg (c :: r) = hdsL sg r := by
 show (if c = sg then _ else hdsL sg r) = _
 rw [if_neg h]
theorem hdsL_yes {sg c d : UInt8} {r : List UInt8} (h : c = sg) (hd : (r.dropWhile blankB).head? = some d) : hdsL sg (c :: r) = ((d.toNat : Int) - 97) :: hdsL sg r := by
 show (if c = sg then (match (r.dropWhile blankB).head? with | some d => ((d.toNat : Int) - 97) :: hdsL sg r | none => hdsL sg r) else hdsL sg r) = _
 rw [if_pos h, hd]
theorem hdsL_end {sg c : UInt8} {r : List UInt8} (h : c = sg) (hd : (r.dropWhile blankB).head? = none) : hdsL sg (c :: r) = hdsL sg r := by
 show (if c = sg then (match (r.dropWhile blankB).head? with | some d => ((d.toNat : Int) - 97) :: hdsL sg r | none => hdsL sg r) else hdsL sg r) = _
 rw [if_pos h, hd]
theorem byte_drop (s : ByteArray) (k : Nat) (h : k < s.size) : s.data.toList.drop k = s[k] :: s.data.toList.drop (k + 1) := by
 rw [List.drop_eq_getElem_cons (by simpa using h)]
 rfl
theorem key_new (w : World) (x : Int) (t : TypeId) : ∀ j u, ([.int .i64 x] : List Value)[j]? = some u → (w.alloc (.cells #[.int .i64 x] t)).cell? ((⟨w.heap.size, 0, none⟩ : Addr).add j) = some u := by
 intro j u h
 match j, h with
 | 0, h => simp at h; subst h; simp [go_sem, Addr.add]
 | j + 1, h => simp at h
theorem key_low {w W w2 : World} {ob : Obj} {row : Option Nat} (hB : Below w.heap.size w W) (hg : (W.alloc ob).grownBy w2 row) (hr : ∀ k, row = some k → w.heap.size ≤ k) : Below w.heap.size w w2 := by
 have hs := hB.size
 have hs2 : W.heap.size + 1 ≤ w2.heap.size := by have := hg.size; simpa using this
 exact ⟨hg.os.trans hB.os, hg.tape.trans hB.tape, hg.output.trans hB.output, by omega, fun k hk => ((hg.block k (by simp; omega) (fun e => by have := hr k e.symm; omega)).trans (Below.heap_alloc _ _ _ (by omega))).trans (hB.block k hk)⟩
set_option maxRecDepth 100000 in
set_option maxHeartbeats 4000000 in
theorem kheads_any (s : ByteArray) (sg : UInt8) (w : World) (hs : s.size ≤ 2000000) :
  Calls Tryz.prog 9 #[.string s, .int .u8 sg.toNat] w fun e w' => (∃ v, e = .returned v ∧ w'.ownsRow w.heap.size 3 1 v (hdsL sg s.data.toList).length (numRow (hdsL sg s.data.toList))) ∧ Below w.heap.size w w' := by
 obtain ⟨iV, hiV, hzV, hsV, hbV⟩ := parts_of_info infoInt3
 generalize hR : hdsL sg s.data.toList = R
 have HR : Hid (([] : List Int) ++ hdsL sg (s.data.toList.drop 0) = R) := hR
 clear hR
 go_enter Tryz.func9, Tryz.ntmps9
 go_wp2_with fail
 go_loopw [5, 6] (fun x y w' => ∃ (an : Option Addr) (nn cn i : Nat) (M : List Int), x = .slice an nn cn ∧ y = .int .i64 i ∧ i ≤ s.size ∧ M.length ≤ i ∧ Hid (w'.ownsRow w.heap.size 3 1 (.slice an nn cn) M.length (numRow M)) ∧ Hid (Below w.heap.size w w') ∧ Hid (M ++ hdsL sg (s.data.toList.drop i) = R)) (fun _ y _ => s.size - (intOf y).toNat)
 case atStart => exact ⟨none, 0, 0, 0, [], rfl, rfl, by omega, by simp, World.ownsRow_nil .., Below.refl _ _, HR⟩
 case round =>
  obtain ⟨an, nn, cn, i, M, rfl, rfl, hi, hM, HO, HW, HL⟩ := hrel
  have hws := HW.out.size
  by_cases hlt : i < s.size
  ·have hL := HL.out
   rw [byte_drop s i hlt] at hL
   by_cases hc : s[i] = sg
   ·have tc : ((s[i].toNat : Int) != (sg.toNat : Int)) = false := by rw [hc]; simp
    go_wp2_with fail
    go_loopw [7] (fun x w' => ∃ k : Nat, x = .int .i64 k ∧ i + 1 ≤ k ∧ k ≤ s.size ∧ w' = wr ∧ Hid ((s.data.toList.drop (i + 1)).dropWhile blankB = (s.data.toList.drop k).dropWhile blankB)) (fun x _ => s.size - (intOf x).toNat)
    case atStart => exact ⟨i + 1, by go_num, by omega, by omega, rfl, rfl⟩
    case round =>
     obtain ⟨k, rfl, hk1, hk2, rfl, HD⟩ := hrel
     by_cases hkl : k < s.size
     ·cases hb : blankB s[k]
      ·have hd : ((s.data.toList.drop (i + 1)).dropWhile blankB).head? = some s[k] := by
        rw [HD.out, byte_drop s k hkl, List.dropWhile_cons_of_neg (by simp [hb])]
        rfl
       have HN : Hid ((M ++ [(s[k].toNat : Int) - 97]) ++ hdsL sg (s.data.toList.drop (i + 1)) = R) := by
        show _ = _
        rw [hdsL_yes hc hd] at hL
        rw [← hL]
        simp
       have HSP : Hid (∀ w, Calls Tryz.prog 17 #[.int .u8 s[k].toNat] w fun e w' => e = .returned (.bool false) ∧ w' = w) := fun w => by have := space_any s[k] w; rw [hb] at this; exact this
       have m1 : M.length + 1 ≤ maxLen := by unfold maxLen; omega
       have m2 : (M.length + 1) * 8 ≤ 140737488355328 := by omega
       have m3 : ∀ ob, w.heap.size ≤ (wr.alloc ob).heap.size := fun ob => by simp; omega
       have HOB : Hid (∀ k, (Value.slice an nn cn).ownBlock = some k → w.heap.size ≤ k) := fun k hk => (HO.out.lt k hk).1
       have hpos : 0 < M.length + 1 := by omega
       have hde := s[k].toNat_lt
       clear hL HL HD hd hb
       go_wp2_with (first | (go_at_call 17; refine (HSP.out _).mono ?_; rintro e1 w1 ⟨rfl, hw1⟩; rw [hw1]; clear hw1) | (at_builtin; refine wpList_append_fresh rfl (.tmp 37) (.tmp 43) 22 rfl w.heap.size 3 iV (.int .i64 0) 1 8 Tryz.underlying22 hiV hzV hsV hbV rfl (by decide) (.slice an nn cn) M.length (numRow M) (by rfl) (by exact HO.out.alloc _) ⟨wr.heap.size, 0, none⟩ 1 1 [.int .i64 ((s[k].toNat : Int) - 97)] (by rfl) rfl (by exact key_new wr _ 3) (by intro q hq; simp at hq; subst hq; rfl) m1 m2 (m3 _) (by decide) ?_; intro v' w2 hown hgrow hfr; have hlow2 := key_low HW.out hgrow HOB.out; clear hfr hgrow; obtain ⟨gn, capn, rfl⟩ := Joins.ownsRow_form hown hpos; have HOWN : Hid _ := hown; have HLOW : Hid (Below w.heap.size w w2) := hlow2; clear hown hlow2))
       go_roundw
       case rel => exact ⟨some ⟨gn, 0, none⟩, _, capn, i + 1, M ++ [(s[k].toNat : Int) - 97], rfl, by go_num, by omega, by simp; omega, by show World.ownsRow _ _ _ _ _ _ _; rw [show numRow (M ++ [(s[k].toNat : Int) - 97]) = numRow M ++ [.int .i64 ((s[k].toNat : Int) - 97)] by simp [numRow], show (M ++ [(s[k].toNat : Int) - 97]).length = M.length + 1 by simp]; exact HOWN.out, HLOW, HN⟩
       case measure => simp [intOf]; omega
      ·have HD2 : Hid ((s.data.toList.drop (i + 1)).dropWhile blankB = (s.data.toList.drop (k + 1)).dropWhile blankB) := by
        show _ = _
        rw [HD.out, byte_drop s k hkl, List.dropWhile_cons_of_pos (by simp [hb])]
       have HSP : Hid (∀ w, Calls Tryz.prog 17 #[.int .u8 s[k].toNat] w fun e w' => e = .returned (.bool true) ∧ w' = w) := fun w => by have := space_any s[k] w; rw [hb] at this; exact this
       clear hb
       go_wp2_with (first | (go_at_call 17; refine (HSP.out _).mono ?_; rintro e1 w1 ⟨rfl, hw1⟩; rw [hw1]; clear hw1))
       go_roundw
       case rel => exact ⟨k + 1, by go_num, by omega, by omega, by trivial, HD2⟩
       case measure => simp [intOf]; omega
     ·have hd : ((s.data.toList.drop (i + 1)).dropWhile blankB).head? = none := by
       rw [HD.out, List.drop_of_length_le (by simp; omega)]
       rfl
      have HN : Hid (M ++ hdsL sg (s.data.toList.drop (i + 1)) = R) := by show _ = _; rw [hdsL_end hc hd] at hL; exact hL
      clear hL HL HD hd
      go_wp2_with fail
      go_roundw
      case rel => exact ⟨an, nn, cn, i + 1, M, rfl, by go_num, by omega, by omega, HO, HW, HN⟩
      case measure => simp [intOf]; omega
   ·have tc : ((s[i].toNat : Int) != (sg.toNat : Int)) = true := by
     simp only [bne_iff_ne, ne_eq]
     intro e
     exact hc (UInt8.toNat_inj.mp (by omega))
    have HN : Hid (M ++ hdsL sg (s.data.toList.drop (i + 1)) = R) := by show _ = _; rw [hdsL_no hc] at hL; exact hL
    clear hL HL
    go_wp2_with fail
    go_roundw
    case rel => exact ⟨an, nn, cn, i + 1, M, rfl, by go_num, by omega, by omega, HO, HW, HN⟩
    case measure => simp [intOf]; omega
  ·have HF : Hid (M = R) := by
    have := HL.out
    rw [List.drop_of_length_le (by simp; omega)] at this
    show _ = _
    simpa [hdsL] using this
   go_wp2_with fail
   go_ret
   rw [← HF.out]
   exact ⟨⟨_, rfl, HO.out⟩, HW.out⟩
end Go.Proofs.YtdgmoiflahoihabGreat
namespace Go.Proofs.YtdgmoiflahoihabGreat
open Go.RowKit
set_option linter.unusedSimpArgs false
set_option linter.unusedVariables false
def fillN (zs : List Int) (n : Nat) : List Int := zs.take n ++ List.replicate (n - zs.length) 0
theorem fillN_len (zs : List Int) (n : Nat) : (fillN zs n).length = n := by
 unfold fillN
 simp
 omega
theorem fillN_ok {zs : List Int} (h : FsOk zs) (n : Nat) : FsOk (fillN zs n) := by
 intro x hx
 unfold fillN at hx
 rcases List.mem_append.mp hx with h1 | h1
 ·exact h x (List.mem_of_mem_take h1)
 ·have := List.eq_of_mem_replicate h1
  rw [this]
  decide
def fillTo (zs : List Int) (n i : Nat) : List Int := zs.take i ++ List.replicate (n - i) 0
theorem fillTo_set {zs : List Int} {n i : Nat} (hi : i < n) (hz : i < zs.length) : (fillTo zs n i).set i zs[i] = fillTo zs n (i + 1) := by
 unfold fillTo
 obtain ⟨m, hm⟩ : ∃ m, n - i = m + 1 := ⟨n - i - 1, by omega⟩
 have e : (zs.take i).length = i := by simp; omega
 rw [hm, List.replicate_succ, show n - (i + 1) = m by omega, List.take_succ_eq_append_getElem hz, List.set_append_right _ _ (by omega), e, Nat.sub_self, List.set_cons_zero, List.append_assoc]
 rfl
theorem fillTo_end {zs : List Int} {n i : Nat} (h1 : i ≤ n) (h2 : i ≤ zs.length) (h : i = n ∨ i = zs.length) : fillTo zs n i = fillN zs n := by
 unfold fillTo fillN
 rcases h with rfl | rfl
 ·rw [show i - i = 0 by omega, show i - zs.length = 0 by omega]
 ·rw [List.take_of_length_le (Nat.le_refl _), List.take_of_length_le (by omega)]
theorem make_noughts (n : Nat) (hn : n ≤ 1000000) (w : World) : (Instr.makeSlice 22 (.int .i64 n) (.int .i64 n)).run Tryz.prog w = .ok (.slice (some ⟨w.heap.size, 0, none⟩) n n) (w.alloc (.cells (numRow (List.replicate n 0)).toArray 3)) := by
 obtain ⟨i, hi, hz, hs, hb⟩ := parts_of_info infoInt3
 have k := run_make (P := Tryz.prog) w 22 3 i _ Tryz.underlying22 hi hz .i64 .i64 (n : Int) (n : Int) (by omega) (by omega) (by rw [hb]; omega) (by omega)
 rw [hs, Int.toNat_natCast, Nat.mul_one] at k
 have e : madeCells (Value.int .i64 0).cells n = (numRow (List.replicate n 0)).toArray := by
  apply Array.ext
  ·simp [madeCells, numRow]
  ·intro k h1 h2
   simp [madeCells, numRow, Value.cells, Nat.mod_one]
 rw [e] at k
 exact k
set_option maxRecDepth 100000 in
set_option maxHeartbeats 2000000 in
theorem ksameNotes_any (l : List Nt) (ao bo : Option Addr) (g cap g2 cap2 : Nat) (w : World) (hc : NoteCells w ao g l) (hd : NoteCells w bo g2 l) (hn : l.length ≤ 1000000) :
  Calls Tryz.prog 15 #[.slice ao l.length cap, .slice bo l.length cap2] w fun e w' => e = .returned (.bool true) ∧ Below w.heap.size w w' := by
 have HC : Hid (NoteCells w ao g l) := hc
 have HD : Hid (NoteCells w bo g2 l) := hd
 clear hc hd
 have t0 : ((l.length : Int) != (l.length : Int)) = false := by simp
 go_enter Tryz.func15, Tryz.ntmps15
 go_wp2_with fail
 go_loopw [5] (fun x w' => ∃ k : Nat, x = .int .i64 k ∧ k ≤ l.length ∧ Hid (Below w.heap.size w w')) (fun x _ => l.length - (intOf x).toNat)
 case atStart => exact ⟨0, rfl, by omega, Below.refl _ _⟩
 case round =>
  obtain ⟨k, rfl, hk, HB⟩ := hrel
  by_cases hlt : k < l.length
  ·have tk : decide ((k : Int) < (l.length : Int)) = true := by simp; omega
   obtain ⟨ea, hg, c0, c1, c2, c3, c4⟩ := HC.out.below HB.out k hlt
   obtain ⟨eb, hg2, d0, d1, d2, d3, d4⟩ := HD.out.below HB.out k hlt
   clear HC HD
   subst ea eb
   generalize l[k] = p at *
   obtain ⟨p0, p1, p2, ⟨p3, p4⟩⟩ := p
   simp only at c0 c1 c2 c3 c4 d0 d1 d2 d3 d4
   go_upto_region 6 with fail
   go_region
   all_goals go_wp2_with fail
   all_goals go_roundw
   case rel => exact ⟨k + 1, by go_num, by omega, HB.out.drew⟩
   case measure => simp [intOf]; omega
  ·have tk : decide ((k : Int) < (l.length : Int)) = false := by simp; omega
   go_wp2_with fail
   go_ret
   exact ⟨rfl, HB.out⟩
theorem row_set {w : World} {g i : Nat} {l : List Int} {x : Int} {t : TypeId} (h : w.heap[g]? = some (.cells (numRow l).toArray t (0, 0))) : (w.setCell ⟨g, i, none⟩ (.int .i64 x)).heap[g]? = some (.cells (numRow (l.set i x)).toArray t (0, 0)) := by
 rw [setCell_eq_setRow w g _ _ _ _ _ h, setRow_heap w g _ _ _ _ h]
 simp [numRow]
theorem num_row {w : World} {g : Nat} {l : List Int} {t : TypeId} (h : w.heap[g]? = some (.cells (numRow l).toArray t (0, 0))) : NumCells w (some ⟨g, 0, none⟩) g 0 l := num_of_row (r := []) (by simpa using h)
set_option maxRecDepth 100000 in
set_option maxHeartbeats 2000000 in
theorem kfilled_any (zs : List Int) (af : Option Addr) (gf of capf n : Nat) (w : World) (hf : NumCells w af gf of zs) (hn : n ≤ 1000000) (hz : zs.length ≤ 9223372036854775807) :
  Calls Tryz.prog 10 #[.slice af zs.length capf, .int .i64 n] w fun e w' => e = .returned (.slice (some ⟨w.heap.size, 0, none⟩) n n) ∧ w'.heap[w.heap.size]? = some (.cells (numRow (fillN zs n)).toArray 3 (0, 0)) ∧ Below w.heap.size w w' := by
 have hmk := make_noughts n hn w
 have HF : Hid (NumCells w af gf of zs) := hf
 have HR0 : Hid ((w.alloc (.cells (numRow (List.replicate n 0)).toArray 3)).heap[w.heap.size]? = some (.cells (numRow (fillTo zs n 0)).toArray 3 (0, 0))) := by
  show _ = _
  rw [heap_alloc_new]
  simp [fillTo]
 have HB0 : Hid (Below w.heap.size w (w.alloc (.cells (numRow (List.replicate n 0)).toArray 3))) := (Below.refl _ _).alloc (Nat.le_refl _) _
 clear hf
 go_enter Tryz.func10, Tryz.ntmps10
 go_wp2_with fail
 go_loopw [6] (fun x w' => ∃ i : Nat, x = .int .i64 i ∧ i ≤ n ∧ i ≤ zs.length ∧ Hid (w'.heap[w.heap.size]? = some (.cells (numRow (fillTo zs n i)).toArray 3 (0, 0))) ∧ Hid (Below w.heap.size w w')) (fun x _ => n - (intOf x).toNat)
 case atStart => exact ⟨0, rfl, by omega, by omega, HR0, HB0⟩
 case round =>
  obtain ⟨i, rfl, hi, hiz, HR, HB⟩ := hrel
  have hgl : w.heap.size < wr.heap.size := (Array.getElem?_eq_some_iff.mp HR.out).1
  by_cases hin : i < n
  ·have t1 : decide ((i : Int) < (n : Int)) = true := by simp; omega
   by_cases hil : i < zs.length
   ·have t2 : decide ((i : Int) < (zs.length : Int)) = true := by simp; omega
    obtain ⟨rfl, hg, c0⟩ := HF.out.below HB.out i hil
    have hne : ¬ gf = w.heap.size := by have := (HF.out i hil).2.1; omega
    obtain ⟨_, _, d0⟩ := num_row HR.out i (by unfold fillTo; simp; omega)
    rw [Nat.zero_add] at d0
    have fz : ∀ o, wr.frozen? ⟨w.heap.size, o, none⟩ = false := fun o => by have := HR.out; simp [World.frozen?, this]
    have HR2 : Hid ((wr.setCell ⟨w.heap.size, i, none⟩ (.int .i64 zs[i])).heap[w.heap.size]? = some (.cells (numRow (fillTo zs n (i + 1))).toArray 3 (0, 0))) := by
     have := row_set (i := i) (x := zs[i]) HR.out
     rw [fillTo_set hin hil] at this
     exact this
    have HB2 : Hid (Below w.heap.size w (wr.setCell ⟨w.heap.size, i, none⟩ (.int .i64 zs[i]))) := HB.out.setCell (Nat.le_refl _) _
    have i0 : (0 : Int) ≤ (i : Int) := by omega
    have i1 : (i : Int) < (n : Int) := by omega
    have i2 : (i : Int) < (zs.length : Int) := by omega
    clear HR
    generalize zs[i] = z at *
    go_wp2_with fail
    go_roundw
    case rel => exact ⟨i + 1, by go_num, by omega, by omega, HR2, HB2⟩
    case measure => simp [intOf]; omega
   ·have t2 : decide ((i : Int) < (zs.length : Int)) = false := by simp; omega
    go_wp2_with fail
    go_ret
    rw [← fillTo_end hi hiz (.inr (by omega))]
    exact ⟨rfl, HR.out, HB.out⟩
  ·have t1 : decide ((i : Int) < (n : Int)) = false := by simp; omega
   go_wp2_with fail
   go_ret
   rw [← fillTo_end hi hiz (.inl (by omega))]
   exact ⟨rfl, HR.out, HB.out⟩
set_option maxRecDepth 100000 in
set_option maxHeartbeats 1000000 in
theorem usable_any (s : ByteArray) (w : World) (hs : s.size ≤ 2000000) :
  Calls Tryz.prog 5 #[.string s] w fun e w' => e = .returned (.tuple #[.int .i64 ((hdsL 63 s.data.toList).length : Nat), .bool ((checkP s.data.toList).1 == 0)]) ∧ Below w.heap.size w w' := by
 have hsl : s.data.toList.length = s.size := by simp
 have HC : Hid (∀ w, Calls Tryz.prog 8 #[.string s] w fun e w' => e = .returned (.tuple #[.int .i64 (checkP s.data.toList).1, .int .i64 (checkP s.data.toList).2]) ∧ Below w.heap.size w w') := fun w => tariffCheck_any s w (by unfold maxLen; omega) (fun h hb => parse_ok (by omega) hb)
 have HH : Hid (∀ w, Calls Tryz.prog 9 #[.string s, .int .u8 63] w fun e w' => (∃ v, e = .returned v ∧ w'.ownsRow w.heap.size 3 1 v (hdsL 63 s.data.toList).length (numRow (hdsL 63 s.data.toList))) ∧ Below w.heap.size w w') := fun w => kheads_any s 63 w hs
 generalize hdsL 63 s.data.toList = L at *
 generalize checkP s.data.toList = y at *
 obtain ⟨y1, y2⟩ := y
 simp only at HC
 go_enter Tryz.func5, Tryz.ntmps5
 go_wp2_with (first | (go_at_call 8; refine (HC.out _).mono ?_; rintro e w1 ⟨rfl, hb1⟩; have HB1 : Hid (Below w.heap.size w w1) := hb1; clear hb1) | (go_at_call 9; refine (HH.out _).mono ?_; rintro e w2 ⟨⟨v, rfl, ho⟩, hb2⟩; obtain ⟨ao, g, cap, rfl, hn⟩ := nums_form ho; have HB2 : Hid (Below w1.heap.size w1 w2) := hb2; clear hb2 ho hn))
 go_ret2
 exact ⟨rfl, HB1.out.trans (HB2.out.mono HB1.out.size)⟩
end Go.Proofs.YtdgmoiflahoihabGreat
