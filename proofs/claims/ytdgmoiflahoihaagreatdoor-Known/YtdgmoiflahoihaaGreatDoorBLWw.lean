import Derived.Test.YtdgmoiflahoihaaGreatDoorBLIw
import Derived.Lib.AppendStr
import Derived.Test.YtdgmoiflahoihaaGreatDoorLNtw

namespace Go.Proofs.YtdgmoiflahoihaaGreatDoor
open Go.RowKit
set_option linter.unusedSimpArgs false
set_option linter.unusedVariables false
theorem txt_list (l : List UInt8) : (txt l).data.toList = l := by simp [txt]
set_option maxHeartbeats 1000000 in
theorem written_any (v : Vl) (hv : VlOk v) (w : World) (ht : TabOk w) :
  Calls Tryz.prog 104 #[vlV v] w fun e w' => e = .returned (.string (txt (worthB v))) ∧ Below w.heap.size w w' := by
 obtain ⟨num, fault⟩ := v
 obtain ⟨h1, h2, h3⟩ := hv
 simp only at h1 h2 h3
 have hB0 : Below w.heap.size w (w.alloc (.cells #[.int .i64 num, .int .i64 fault] 59)) := (Below.refl _ _).alloc (Nat.le_refl _) _
 have ht0 : TabOk (w.alloc (.cells #[.int .i64 num, .int .i64 fault] 59)) := ht.below hB0
 have HN : Hid (∀ w, TabOk w → Calls Tryz.prog 103 #[.int .i64 num] w fun e w' => e = .returned (.string (txt (intB num))) ∧ Below w.heap.size w w') := fun w h => itoa_any num h1 w h
 have HF : Hid (∀ w, TabOk w → Calls Tryz.prog 103 #[.int .i64 fault] w fun e w' => e = .returned (.string (txt (intB fault))) ∧ Below w.heap.size w w') := fun w h => itoa_any fault (by omega) w h
 have HT0 : Hid (TabOk (w.alloc (.cells #[.int .i64 num, .int .i64 fault] 59))) := ht0
 have HB0 : Hid (Below w.heap.size w (w.alloc (.cells #[.int .i64 num, .int .i64 fault] 59))) := hB0
 have hlf := intB_len20 fault (by omega)
 clear ht ht0 hB0
 by_cases h0 : fault = 0
 ·have hw : worthB ⟨num, fault⟩ = intB num := by unfold worthB; rw [if_neg (by simpa using h0)]
  rw [hw]
  clear hw HF hlf h2 h3
  subst h0
  go_enter Tryz.func104, Tryz.ntmps104
  go_wp2_with (go_at_call 103; refine (HN.out _ HT0.out).mono ?_; rintro e w1 ⟨rfl, hb1⟩; have HB : Hid (Below w.heap.size w w1) := HB0.out.trans (hb1.mono (by simp)); clear hb1)
  go_ret
  exact ⟨rfl, HB.out⟩
 ·have hw : txt (worthB ⟨num, fault⟩) = ⟨#[33]⟩ ++ txt (intB fault) := by
   unfold worthB
   rw [if_pos h0]
   exact (txt_append [33] (intB fault)).symm
  rw [hw]
  have t0 : (fault != 0) = true := by simp [h0]
  have hT : (txt (intB fault)).size ≤ 20 := hlf
  generalize txt (intB fault) = T at *
  clear hw h0 hlf h3
  go_enter Tryz.func104, Tryz.ntmps104
  go_wp2_with (go_at_call 103; refine (HF.out _ HT0.out).mono ?_; rintro e w1 ⟨rfl, hb1⟩; have HB : Hid (Below w.heap.size w w1) := HB0.out.trans (hb1.mono (by simp)); clear hb1)
  go_ret
  exact ⟨rfl, HB.out⟩
abbrev ntV (x : Nt) : Value := .agg #[.int .i64 x.kind, .int .i64 x.place, .int .i64 x.label, .int .i64 x.val.num, .int .i64 x.val.fault]
theorem note_txt (x : Nt) : txt (intB (x.place : Int)) ++ ⟨#[58]⟩ ++ txt (worthB x.val) ++ ⟨#[10]⟩ = txt (noteB x) := by
 have e1 : txt (intB (x.place : Int)) ++ ⟨#[58]⟩ = txt (intB (x.place : Int) ++ [58]) := txt_append _ [58]
 have e2 : txt ((intB (x.place : Int) ++ [58]) ++ worthB x.val) ++ ⟨#[10]⟩ = txt (((intB (x.place : Int) ++ [58]) ++ worthB x.val) ++ [10]) := txt_append _ [10]
 rw [e1, txt_append, e2]
 unfold noteB lineB
 simp
set_option maxHeartbeats 1000000 in
theorem lineOf_any (x : Nt) (hx : NtOk x) (w : World) (ht : TabOk w) :
  Calls Tryz.prog 70 #[ntV x] w fun e w' => e = .returned (.string (txt (noteB x))) ∧ Below w.heap.size w w' := by
 have hB0 : Below w.heap.size w (w.alloc (.cells #[.int .i64 x.kind, .int .i64 x.place, .int .i64 x.label, .int .i64 x.val.num, .int .i64 x.val.fault] 61)) := (Below.refl _ _).alloc (Nat.le_refl _) _
 have HT0 : Hid (TabOk (w.alloc (.cells #[.int .i64 x.kind, .int .i64 x.place, .int .i64 x.label, .int .i64 x.val.num, .int .i64 x.val.fault] 61))) := ht.below hB0
 have HB0 : Hid (Below w.heap.size w (w.alloc (.cells #[.int .i64 x.kind, .int .i64 x.place, .int .i64 x.label, .int .i64 x.val.num, .int .i64 x.val.fault] 61))) := hB0
 have hpl := hx.place
 have HI : Hid (∀ w, TabOk w → Calls Tryz.prog 103 #[.int .i64 (x.place : Int)] w fun e w' => e = .returned (.string (txt (intB (x.place : Int)))) ∧ Below w.heap.size w w') := fun w h => itoa_any _ (by omega) w h
 have HW : Hid (∀ w, TabOk w → Calls Tryz.prog 104 #[.agg #[.int .i64 x.val.num, .int .i64 x.val.fault]] w fun e w' => e = .returned (.string (txt (worthB x.val))) ∧ Below w.heap.size w w') := fun w h => written_any x.val hx.val w h
 have HE : Hid (txt (intB (x.place : Int)) ++ ⟨#[58]⟩ ++ txt (worthB x.val) ++ ⟨#[10]⟩ = txt (noteB x)) := note_txt x
 have hl1 : (txt (intB (x.place : Int))).size ≤ 20 := intB_len20 (x.place : Int) (by omega)
 have hl2 : (txt (worthB x.val)).size ≤ 21 := worthB_len21 hx.val
 generalize txt (intB (x.place : Int)) = N1 at *
 generalize txt (worthB x.val) = N2 at *
 have q3 : ∀ (w1 : World), Below (w.alloc (.cells #[.int .i64 x.kind, .int .i64 x.place, .int .i64 x.label, .int .i64 x.val.num, .int .i64 x.val.fault] 61)).heap.size (w.alloc (.cells #[.int .i64 x.kind, .int .i64 x.place, .int .i64 x.label, .int .i64 x.val.num, .int .i64 x.val.fault] 61)) w1 → w1.cell? ⟨w.heap.size, 3, none⟩ = some (.int .i64 x.val.num) ∧ w1.cell? ⟨w.heap.size, 4, none⟩ = some (.int .i64 x.val.fault) := fun w1 h => by
  constructor
  ·rw [h.cell (p := ⟨w.heap.size, 3, none⟩) (by simp)]; simp [go_sem]
  ·rw [h.cell (p := ⟨w.heap.size, 4, none⟩) (by simp)]; simp [go_sem]
 have HQ : Hid _ := q3
 clear q3 ht hB0 hx
 go_enter Tryz.func70, Tryz.ntmps70
 go_wp2_with (first | (go_at_call 103; refine (HI.out _ HT0.out).mono ?_; rintro e w1 ⟨rfl, hb1⟩; obtain ⟨c3, c4⟩ := HQ.out w1 hb1; have HB1 : Hid (Below w.heap.size w w1) := HB0.out.trans (hb1.mono (by simp)); have HT1 : Hid (TabOk w1) := HT0.out.below hb1; clear hb1) | (go_at_call 104; refine (HW.out _ HT1.out).mono ?_; rintro e w2 ⟨rfl, hb2⟩; have HB2 : Hid (Below w.heap.size w w2) := HB1.out.trans (hb2.mono HB1.out.size); clear hb2))
 go_ret
 refine ⟨?_, HB2.out⟩
 rw [← HE.out]
 rfl
set_option maxHeartbeats 1000000 in
theorem flowsB_any (a b : Int) (w : World) : Calls Tryz.prog 102 #[.int .i64 a, .int .i64 b] w fun e w' => e = .returned (.bool (bits .or .i64 a b == b)) ∧ w' = w := by
 go_enter Tryz.func102, Tryz.ntmps102
 go_wp2_with fail
 go_ret
 exact ⟨rfl, rfl⟩
set_option maxHeartbeats 1000000 in
theorem isShown_any (x : Nt) (r : Int) (w : World) :
  Calls Tryz.prog 69 #[ntV x, .int .i64 r] w fun e w' => e = .returned (.bool (shownN r x)) ∧ Below w.heap.size w w' := by
 have hB0 : Below w.heap.size w (w.alloc (.cells #[.int .i64 x.kind, .int .i64 x.place, .int .i64 x.label, .int .i64 x.val.num, .int .i64 x.val.fault] 61)) := (Below.refl _ _).alloc (Nat.le_refl _) _
 have HF : Hid (∀ w, Calls Tryz.prog 102 #[.int .i64 (x.label : Int), .int .i64 r] w fun e w' => e = .returned (.bool (bits .or .i64 (x.label : Int) r == r)) ∧ w' = w) := fun w => flowsB_any _ _ w
 have HB0 : Hid _ := hB0
 clear hB0
 unfold shownN
 cases hk : (x.kind == 0)
 ·go_enter Tryz.func69, Tryz.ntmps69
  go_wp2_with fail
  go_ret
  exact ⟨rfl, HB0.out⟩
 ·generalize (bits .or .i64 (x.label : Int) r == r) = G at *
  go_enter Tryz.func69, Tryz.ntmps69
  go_wp2_with (go_at_call 102; refine (HF.out _).mono ?_; rintro e w1 ⟨rfl, hw1⟩; subst hw1)
  go_ret
  exact ⟨rfl, HB0.out⟩
end Go.Proofs.YtdgmoiflahoihaaGreatDoor
namespace Go.Proofs.YtdgmoiflahoihaaGreatDoor
open Go.RowKit
set_option linter.unusedSimpArgs false
set_option linter.unusedVariables false
theorem infoU8 : (Tryz.prog.info? 5).map (fun i => (i.zero, i.size, i.bytes)) = some (some (.int .u8 0), 1, 1) := by kernel_rfl
theorem own_lowB {w w' : World} {base size n : Nat} {e : TypeId} {v : Value} {xs : List Value} (h : w.ownsRow base e size v n xs) (hb : Below w.heap.size w w') : w'.ownsRow base e size v n xs :=
 own_same h (fun k e hl => hb.block k hl)
theorem low_grownB {w W w2 : World} {row : Option Nat} (hB : Below w.heap.size w W) (hg : W.grownBy w2 row) (hr : ∀ k, row = some k → w.heap.size ≤ k) : Below w.heap.size w w2 := by
 have hs := hB.size
 exact ⟨hg.os.trans hB.os, hg.tape.trans hB.tape, hg.output.trans hB.output, Nat.le_trans hs hg.size, fun k hk => (hg.block k (by omega) (fun e => by have := hr k e.symm; omega)).trans (hB.block k hk)⟩
theorem strCells_at (l : List UInt8) (j : Nat) (hj : j < l.length) : (Lib.strCells (txt l))[j]? = some (.int .u8 (l[j].toNat : Int)) := by
 unfold Lib.strCells
 rw [txt_list]
 simp [hj]
theorem conv_row {W : World} {base : Nat} {v : Value} (l : List UInt8) (h : W.ownsRow base 5 1 v l.length (Lib.strCells (txt l))) : (convert 107 9 v).run Tryz.prog W = .ok (.string (txt l)) W := by
 rcases h.2 with ⟨rfl, h0⟩ | ⟨g, cap, cur, rfl, hb, hg, hc, hm, hcs, ht⟩
 ·have : l = [] := List.length_eq_zero_iff.mp h0
  subst this
  rw [run_convert_bytes_string W 107 9 5 none 0 0 Tryz.underlying107 Tryz.underlying5 Tryz.underlying9]
  rfl
 ·refine run_convert_bytes_back (P := Tryz.prog) W 107 9 5 ⟨g, 0, none⟩ cap l Tryz.underlying107 Tryz.underlying5 Tryz.underlying9 ?_
  intro j hj
  have := h.cellAt j (by omega)
  rw [strCells_at l j hj] at this
  by_cases hj0 : j = 0
  ·subst hj0
   simpa [Addr.add] using this
  ·simpa [Addr.add, hj0] using this
theorem billB_drop (r : Int) (N : List Nt) (k : Nat) (hk : k < N.length) : billB r (N.drop k) = (if shownN r N[k] then noteB N[k] else []) ++ billB r (N.drop (k + 1)) := by
 rw [List.drop_eq_getElem_cons hk]
 rfl
set_option maxRecDepth 100000 in
set_option maxHeartbeats 4000000 in
theorem ofNotes_any (N : List Nt) (r : Int) (ao : Option Addr) (g cap : Nat) (w : World) (hN : NoteCells w ao g N) (hfew : N.length ≤ 5000) (hok : ∀ x ∈ N, NtOk x) (ht : TabOk w) :
  Calls Tryz.prog 42 #[.slice ao N.length cap, .int .i64 r] w fun e w' => e = .returned (.string (txt (billB r N))) ∧ Below w.heap.size w w' := by
 obtain ⟨iV, hiV, hzV, hsV, hbV⟩ := parts_of_info infoU8
 have HN : Hid (NoteCells w ao g N) := hN
 have HOK : Hid (∀ x ∈ N, NtOk x) := hok
 have HT : Hid (TabOk w) := ht
 clear hN hok ht
 generalize hR : billB r N = R
 have HR : Hid (([] : List UInt8) ++ billB r (N.drop 0) = R) := hR
 clear hR
 go_enter Tryz.func42, Tryz.ntmps42
 go_wp2_with fail
 go_loopw [5, 11] (fun v x w' => ∃ (an : Option Addr) (nn cn k : Nat) (M : List UInt8), v = .slice an nn cn ∧ x = .int .i64 k ∧ k ≤ N.length ∧ M.length ≤ 50 * k ∧ Hid (w'.ownsRow w.heap.size 5 1 (.slice an nn cn) M.length (Lib.strCells (txt M))) ∧ Hid (Below w.heap.size w w') ∧ Hid (M ++ billB r (N.drop k) = R)) (fun _ x _ => N.length - (intOf x).toNat)
 case atStart => exact ⟨none, 0, 0, 0, [], rfl, rfl, Nat.zero_le _, Nat.le_refl _, World.ownsRow_nil .., Below.refl _ _, HR⟩
 case round =>
  obtain ⟨an, nn, cn, k, M, rfl, rfl, hk, hM, HO, HW, HF⟩ := hrel
  have hws := HW.out.size
  by_cases hlt : k < N.length
  ·have tk : decide ((k : Int) < (N.length : Int)) = true := by rw [decide_eq_true_iff]; omega
   obtain ⟨ea, hg, c0, c1, c2, c3, c4⟩ := HN.out.below HW.out k hlt
   have hxok := HOK.out N[k] (List.getElem_mem hlt)
   have hF := HF.out
   rw [billB_drop r N k hlt] at hF
   subst ea
   generalize N[k] = x at *
   have HSH : Hid (∀ w, Calls Tryz.prog 69 #[.agg #[.int .i64 x.kind, .int .i64 x.place, .int .i64 x.label, .int .i64 x.val.num, .int .i64 x.val.fault], .int .i64 r] w fun e w' => e = .returned (.bool (shownN r x)) ∧ Below w.heap.size w w') := fun w => isShown_any x r w
   have HLN : Hid (∀ w, TabOk w → Calls Tryz.prog 70 #[.agg #[.int .i64 x.kind, .int .i64 x.place, .int .i64 x.label, .int .i64 x.val.num, .int .i64 x.val.fault]] w fun e w' => e = .returned (.string (txt (noteB x))) ∧ Below w.heap.size w w') := fun w h => lineOf_any x hxok w h
   have hnl := noteB_len hxok
   have HTr : Hid (TabOk wr) := HT.out.below HW.out
   have HA : Hid (∀ w1, Below (wr.alloc (.cells #[.int .i64 x.kind, .int .i64 x.place, .int .i64 x.label, .int .i64 x.val.num, .int .i64 x.val.fault] 61)).heap.size (wr.alloc (.cells #[.int .i64 x.kind, .int .i64 x.place, .int .i64 x.label, .int .i64 x.val.num, .int .i64 x.val.fault] 61)) w1 → Below wr.heap.size wr w1 ∧ w1.cell? ⟨wr.heap.size, 0, none⟩ = some (.int .i64 x.kind) ∧ w1.cell? ⟨wr.heap.size, 1, none⟩ = some (.int .i64 x.place) ∧ w1.cell? ⟨wr.heap.size, 2, none⟩ = some (.int .i64 x.label) ∧ w1.cell? ⟨wr.heap.size, 3, none⟩ = some (.int .i64 x.val.num) ∧ w1.cell? ⟨wr.heap.size, 4, none⟩ = some (.int .i64 x.val.fault)) := fun w1 h => by
    refine ⟨((Below.refl _ _).alloc (Nat.le_refl _) _).trans (h.mono (by simp)), ?_, ?_, ?_, ?_, ?_⟩
    ·rw [h.cell (p := ⟨wr.heap.size, 0, none⟩) (by simp)]; simp [go_sem]
    ·rw [h.cell (p := ⟨wr.heap.size, 1, none⟩) (by simp)]; simp [go_sem]
    ·rw [h.cell (p := ⟨wr.heap.size, 2, none⟩) (by simp)]; simp [go_sem]
    ·rw [h.cell (p := ⟨wr.heap.size, 3, none⟩) (by simp)]; simp [go_sem]
    ·rw [h.cell (p := ⟨wr.heap.size, 4, none⟩) (by simp)]; simp [go_sem]
   clear HF HN HOK hxok
   cases hsh : shownN r x
   ·rw [hsh] at hF HSH
    have HF2 : Hid (M ++ billB r (N.drop (k + 1)) = R) := by show _ = _; simpa using hF
    clear hF HLN
    go_wp2_with (first | (go_at_call 69; refine (HSH.out _).mono ?_; rintro e w1 ⟨rfl, hb1⟩; have h1 := (HA.out w1 hb1).1; have HB1 : Hid (Below w.heap.size w w1) := HW.out.trans (h1.mono HW.out.size); have HO1 : Hid (w1.ownsRow w.heap.size 5 1 (.slice an nn cn) M.length (Lib.strCells (txt M))) := own_lowB HO.out h1; clear hb1 h1))
    refine ⟨⟨an, nn, cn, k + 1, M, rfl, by go_num, by omega, by omega, HO1, HB1, HF2⟩, ?_⟩
    simp [intOf]
    omega
   ·rw [hsh] at hF HSH
    have HF2 : Hid ((M ++ noteB x) ++ billB r (N.drop (k + 1)) = R) := by show _ = _; rw [← hF]; simp
    clear hF
    have hts : (txt (noteB x)).size = (noteB x).length := rfl
    have m1 : M.length + (txt (noteB x)).size ≤ maxLen := by unfold maxLen; omega
    have m2 : M.length + (txt (noteB x)).size ≤ 140737488355328 := by omega
    have HAP : Hid (Lib.strCells (txt M) ++ Lib.strCells (txt (noteB x)) = Lib.strCells (txt (M ++ noteB x)) ∧ M.length + (txt (noteB x)).size = (M ++ noteB x).length) := by
     refine ⟨?_, by rw [List.length_append]; rfl⟩
     unfold Lib.strCells
     rw [txt_list, txt_list, txt_list, List.map_append]
    generalize hT : txt (noteB x) = T at *
    have hsz : T.size ≤ 50 := by rw [← hT]; exact hnl
    generalize hMM : M ++ noteB x = MM at *
    have hmm : MM.length ≤ 50 * (k + 1) := by rw [← hMM, List.length_append]; omega
    have hpos : 0 < MM.length := by rw [← hMM]; unfold noteB; simp; omega
    clear hT hMM hts
    go_wp2_with (first | (go_at_call 69; refine (HSH.out _).mono ?_; rintro e w1 ⟨rfl, hb1⟩; obtain ⟨h1, d0, d1, d2, d3, d4⟩ := HA.out w1 hb1; have HB1 : Hid (Below w.heap.size w w1) := HW.out.trans (h1.mono HW.out.size); have HO1 : Hid (w1.ownsRow w.heap.size 5 1 (.slice an nn cn) M.length (Lib.strCells (txt M))) := own_lowB HO.out h1; have HT1 : Hid (TabOk w1) := HTr.out.below h1; clear hb1 h1) | (go_at_call 70; refine (HLN.out _ HT1.out).mono ?_; rintro e w2 ⟨rfl, hb2⟩; have HB2 : Hid (Below w.heap.size w w2) := HB1.out.trans (hb2.mono HB1.out.size); have HO2 : Hid (w2.ownsRow w.heap.size 5 1 (.slice an nn cn) M.length (Lib.strCells (txt M))) := own_lowB HO1.out hb2; clear hb2; have hs2 := HB2.out.size) | (at_builtin; refine Lib.wpList_append_own_string _ rfl (.tmp 20) (.tmp 21) 107 9 rfl w.heap.size 5 iV Tryz.underlying107 Tryz.underlying9 hiV hzV hsV hbV (.slice an nn cn) M.length (Lib.strCells (txt M)) (by rfl) (by exact HO2.out) T (by rfl) m1 m2 hs2 ?_; intro v' w4 hown hgrow hfr; have hlow := low_grownB HB2.out hgrow (fun k hk => (HO2.out.lt k hk).1); clear hfr hgrow; rw [HAP.out.1, HAP.out.2] at hown; have HLW : Hid (Below w.heap.size w w4) := hlow; clear hlow; obtain ⟨gn, capn, rfl⟩ := Joins.ownsRow_form hown hpos; have HOW : Hid (w4.ownsRow w.heap.size 5 1 (.slice (some ⟨gn, 0, none⟩) MM.length capn) MM.length (Lib.strCells (txt MM))) := hown; clear hown))
    refine ⟨⟨_, _, _, k + 1, MM, rfl, by go_num, by omega, hmm, HOW, HLW, HF2⟩, ?_⟩
    simp [intOf]
    omega
  ·have tk : decide ((k : Int) < (N.length : Int)) = false := by rw [decide_eq_false_iff_not]; omega
   have HF2 : Hid (M = R) := by
    have := HF.out
    rw [List.drop_of_length_le (by omega)] at this
    show _ = _
    simpa [billB] using this
   have hcv := conv_row M HO.out
   clear HF HN HOK
   go_wp2_with fail
   go_ret
   refine ⟨?_, HW.out⟩
   rw [← HF2.out]
   rfl
def BillPost (w : World) (b : Int × List UInt8) (e : Ending) (w' : World) : Prop := e = .returned (.tuple #[.string (txt b.2), .int .i64 b.1]) ∧ Below w.heap.size w w'
set_option maxRecDepth 100000 in
set_option maxHeartbeats 2000000 in
theorem billText_any (s : ByteArray) (vf : Value) (r : Int) (w : World) (R : Int × List Nt) (hrun : ∀ w', w' = w → Calls Tryz.prog 41 #[.string s, vf] w' (RunPost w' R)) (hfew : R.2.length ≤ 5000) (hok : ∀ x ∈ R.2, NtOk x) (ht : TabOk w) :
  Calls Tryz.prog 7 #[.string s, vf, .int .i64 r] w (BillPost w (billP r R)) := by
 obtain ⟨er, N⟩ := R
 simp only at hfew hok
 have HRUN : Hid (Calls Tryz.prog 41 #[.string s, vf] w (RunPost w (er, N))) := hrun w rfl
 have HOF : Hid (∀ (w1 : World) (ao : Option Addr) (g cap : Nat), NoteCells w1 ao g N → TabOk w1 → Calls Tryz.prog 42 #[.slice ao N.length cap, .int .i64 r] w1 fun e w' => e = .returned (.string (txt (billB r N))) ∧ Below w1.heap.size w1 w') := fun w1 ao g cap h1 h2 => ofNotes_any N r ao g cap w1 h1 hfew hok h2
 have HT : Hid (TabOk w) := ht
 clear hrun hok ht
 have HX : Hid (Calls Tryz.prog 20 #[.string s, vf, .int .i64 r] w (BillPost w (billP r (er, N)))) := by
  by_cases h0 : er = 0
  ·subst h0
   by_cases hr : r < 0 ∨ 15 < r
   ·have hb : billP r (0, N) = (9, []) := by unfold billP; rw [if_neg (by simp), if_pos hr]
    rw [hb]
    clear HOF
    by_cases hneg : r < 0
    ·have t1 : decide (r < 0) = true := decide_eq_true hneg
     go_enter Tryz.func20, Tryz.ntmps20
     go_wp2_with (first | (go_at_call 41; refine HRUN.out.mono ?_; rintro e w1 ⟨⟨va, rfl, ha1, ha2⟩, hb1⟩; have HB1 : Hid (Below w.heap.size w w1) := hb1; clear hb1 ha1 ha2))
     go_ret2
     exact ⟨rfl, HB1.out⟩
    ·have t1 : decide (r < 0) = false := decide_eq_false hneg
     have t2 : decide ((16 : Int) ≤ r) = true := by rw [decide_eq_true_iff]; omega
     go_enter Tryz.func20, Tryz.ntmps20
     go_wp2_with (first | (go_at_call 41; refine HRUN.out.mono ?_; rintro e w1 ⟨⟨va, rfl, ha1, ha2⟩, hb1⟩; have HB1 : Hid (Below w.heap.size w w1) := hb1; clear hb1 ha1 ha2))
     go_ret2
     exact ⟨rfl, HB1.out⟩
   ·have hb : billP r (0, N) = (0, billB r N) := by unfold billP; rw [if_neg (by simp), if_neg hr]
    rw [hb]
    have t1 : decide (r < 0) = false := by rw [decide_eq_false_iff_not]; omega
    have t2 : decide ((16 : Int) ≤ r) = false := by rw [decide_eq_false_iff_not]; omega
    generalize billB r N = BB at *
    go_enter Tryz.func20, Tryz.ntmps20
    go_wp2_with (first | (go_at_call 41; refine HRUN.out.mono ?_; rintro e w1 ⟨⟨va, rfl, ha1, ha2⟩, hb1⟩; obtain ⟨aa, ga, ca, rfl, hna⟩ := notes_form ha2; have HNA : Hid (NoteCells w1 aa ga N) := hna; have HB1 : Hid (Below w.heap.size w w1) := hb1; have HT1 : Hid (TabOk w1) := HT.out.below hb1; clear hb1 ha1 ha2 hna) | (go_at_call 42; refine (HOF.out _ aa ga ca HNA.out HT1.out).mono ?_; rintro e w2 ⟨rfl, hb2⟩; have HB2 : Hid (Below w.heap.size w w2) := HB1.out.trans (hb2.mono HB1.out.size); clear hb2))
    go_ret2
    exact ⟨rfl, HB2.out⟩
  ·have hb : billP r (er, N) = (er, []) := by unfold billP; rw [if_pos (by simpa using h0)]
   rw [hb]
   have t0 : (er != 0) = true := by simpa using h0
   clear HOF
   go_enter Tryz.func20, Tryz.ntmps20
   go_wp2_with (first | (go_at_call 41; refine HRUN.out.mono ?_; rintro e w1 ⟨⟨va, rfl, ha1, ha2⟩, hb1⟩; have HB1 : Hid (Below w.heap.size w w1) := hb1; clear hb1 ha1 ha2))
   go_ret2
   exact ⟨rfl, HB1.out⟩
 generalize billP r (er, N) = BP at *
 go_enter Tryz.func7, Tryz.ntmps7
 go_wp2_with (first | (go_at_call 20; refine HX.out.mono ?_; rintro e w1 ⟨rfl, hb1⟩; have HB1 : Hid (Below w.heap.size w w1) := hb1; clear hb1))
 go_ret2
 exact ⟨rfl, HB1.out⟩
end Go.Proofs.YtdgmoiflahoihaaGreatDoor
