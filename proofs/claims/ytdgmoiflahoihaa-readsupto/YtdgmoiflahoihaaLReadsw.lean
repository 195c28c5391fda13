import Derived.Test.YtdgmoiflahoihaaRows
import Derived.Test.YtdgmoiflahoihaaBDMw
import Derived.WalkKit
import Derived.ProofKit
import Derived.OpenShut
import Derived.ShutString
import Derived.ChangeOld
import Derived.Below
import Derived.JoinedCond

namespace Go.Proofs.Ytdgmoiflahoihaa
open Go.ChangeShapes Go.WideShapes Go.ChangeAt Go.RowKit
open Go.ChangeMaps (open_string shut_string)
set_option linter.unusedSimpArgs false
set_option linter.unusedVariables false
def LineCells (w : World) (ao : Option Addr) (g : Nat) (l : List Ln) : Prop := ∀ i, ∀ hi : i < l.length, ao = some ⟨g, 0, none⟩ ∧ g < w.heap.size ∧
 w.cell? ⟨g, i * 3, none⟩ = some (.int .i64 l[i].place) ∧ w.cell? ⟨g, i * 3 + 1, none⟩ = some (.int .i64 l[i].val.num) ∧ w.cell? ⟨g, i * 3 + 2, none⟩ = some (.int .i64 l[i].val.fault)
theorem LineCells.below {w w' : World} {ao : Option Addr} {g : Nat} {l : List Ln} (h : LineCells w ao g l) (hb : Below w.heap.size w w') : LineCells w' ao g l := by
 intro i hi
 obtain ⟨e, hg, c0, c1, c2⟩ := h i hi
 exact ⟨e, Nat.lt_of_lt_of_le hg hb.size, (hb.cell (p := ⟨g, _, none⟩) hg).trans c0, (hb.cell (p := ⟨g, _, none⟩) hg).trans c1, (hb.cell (p := ⟨g, _, none⟩) hg).trans c2⟩
theorem lnCells_at (l : List Ln) : ∀ (i : Nat) (h : i < l.length), (lnCells l)[i * 3]? = some (.int .i64 l[i].place) ∧ (lnCells l)[i * 3 + 1]? = some (.int .i64 l[i].val.num) ∧ (lnCells l)[i * 3 + 2]? = some (.int .i64 l[i].val.fault) := by
 induction l with
 | nil => intro i h; cases h
 | cons p r ih =>
  intro i h
  cases i with
  | zero => simp [lnCells, lnCell]
  | succ i =>
   have k := ih i (by simpa using h)
   rw [show (i + 1) * 3 = i * 3 + 3 by omega]
   simpa [lnCells, lnCell] using k
theorem lnCells_len (l : List Ln) : (lnCells l).length = l.length * 3 := by
 induction l with
 | nil => rfl
 | cons p r ih => simp [lnCells, lnCell] at *; omega
theorem lines_form {w : World} {base : Nat} {v : Value} {l : List Ln} (h : w.ownsRow base 113 3 v l.length (lnCells l)) : ∃ ao g cap, v = .slice ao l.length cap ∧ LineCells w ao g l := by
 rcases h.2 with ⟨rfl, h0⟩ | ⟨g, cap, cur, rfl, hb, hg, hc, hm, hcs, ht⟩
 ·exact ⟨none, 0, 0, by rw [h0], fun i hi => absurd hi (by omega)⟩
 ·have hln := lnCells_len l
  refine ⟨some ⟨g, 0, none⟩, g, cap, rfl, fun i hi => ⟨rfl, (h.lt g rfl).2, ?_, ?_, ?_⟩⟩
  ·rw [h.cellAt (i * 3) (by omega)]; exact (lnCells_at l i hi).1
  ·rw [h.cellAt (i * 3 + 1) (by omega)]; exact (lnCells_at l i hi).2.1
  ·rw [h.cellAt (i * 3 + 2) (by omega)]; exact (lnCells_at l i hi).2.2
set_option maxRecDepth 100000 in
set_option maxHeartbeats 2000000 in
theorem sameLines_any (l : List Ln) (ao bo : Option Addr) (g cap g2 cap2 : Nat) (w : World) (hc : LineCells w ao g l) (hd : LineCells w bo g2 l) (hn : l.length ≤ 3000000) :
  Calls Try.prog 43 #[.slice ao l.length cap, .slice bo l.length cap2] w fun e w' => e = .returned (.bool true) ∧ Below w.heap.size w w' := by
 have HC : Hid (LineCells w ao g l) := hc
 have HD : Hid (LineCells w bo g2 l) := hd
 clear hc hd
 have t0 : ((l.length : Int) != (l.length : Int)) = false := by simp
 go_enter Try.func43, Try.ntmps43
 go_wp2_with fail
 go_loopw [5] (fun x w' => ∃ k : Nat, x = .int .i64 k ∧ k ≤ l.length ∧ Hid (Below w.heap.size w w')) (fun x _ => l.length - (intOf x).toNat)
 case atStart => exact ⟨0, rfl, by omega, Below.refl _ _⟩
 case round =>
  obtain ⟨k, rfl, hk, HB⟩ := hrel
  by_cases hlt : k < l.length
  ·have tk : decide ((k : Int) < (l.length : Int)) = true := by simp; omega
   obtain ⟨ea, hg, c0, c1, c2⟩ := HC.out.below HB.out k hlt
   obtain ⟨eb, hg2, d0, d1, d2⟩ := HD.out.below HB.out k hlt
   clear HC HD
   subst ea eb
   generalize l[k] = p at *
   obtain ⟨p0, ⟨p3, p4⟩⟩ := p
   simp only at c0 c1 c2 d0 d1 d2
   go_upto_region 6 with fail
   go_region
   all_goals go_wp2_with fail
   all_goals go_roundw
   case rel => exact ⟨k + 1, by go_num, by omega, HB.out.drew⟩
   case measure => simp [intOf]; omega
  ·have tk : decide ((k : Int) < (l.length : Int)) = false := by simp; omega
   go_wp2_with fail
   go_ret
   exact ⟨rfl, HB.out⟩
theorem nilL_eql (w : World) : (binOp BinOp.eql 39 (.slice none 0 0) (.slice none 0 0)).run Try.prog w = .ok (.bool true) w := by
 have k := run_eql_nil_slice (P := Try.prog) w 39 113 none 0 0 0 0 Try.underlying39
 simpa using k
theorem linesB_len : ∀ l : List Ln, l.length ≤ (linesB l).length
 | [] => Nat.le_refl _
 | x :: r => by
  have := linesB_len r
  simp only [linesB, List.length_append, List.length_cons]
  omega
theorem lines_short {t : List UInt8} {l : List Ln} (h : readP t = some l) : l.length ≤ t.length := by
 rw [(readP_some.mp h).1]
 exact linesB_len l
set_option maxRecDepth 100000 in
set_option maxHeartbeats 2000000 in
theorem read_law (s : ByteArray) (w : World) (hs : s.size ≤ 2000000) :
  Calls Try.prog 7 #[.string s] w fun e w' => e = .returned (.bool true) ∧ Below w.heap.size w w' := by
 have HP : Hid (∀ w, Calls Try.prog 41 #[.string s] w (ReadPost w (readP s.data.toList))) := fun w => tariffRead_any s w hs
 have HR : Hid (∀ w, Calls Try.prog 42 #[.string s] w (LinesPost w (readP s.data.toList))) := fun w => by have := refLines_any s w hs; rw [ref_read] at this; exact this
 have HX : Hid (∀ w, Calls Try.prog 18 #[.string s] w fun e w' => (∃ v, e = .returned (.tuple #[v, .bool true])) ∧ Below w.heap.size w w') := by
  intro w
  cases hr : readP s.data.toList with
  | none =>
   rw [hr] at HP HR
   have hnl := nilL_eql
   go_enter Try.func18, Try.ntmps18
   go_wp2_with (first | (go_at_call 41; refine (HP.out _).mono ?_; rintro e w1 ⟨rfl, hb1⟩; have HB1 : Hid (Below w.heap.size w w1) := hb1; clear hb1) | (go_at_call 42; refine (HR.out _).mono ?_; rintro e w2 ⟨rfl, hb2⟩; have HB2 : Hid (Below w.heap.size w w2) := HB1.out.trans (hb2.mono HB1.out.size); clear hb2))
   go_ret2
   exact ⟨⟨_, rfl⟩, HB2.out⟩
  | some l =>
   rw [hr] at HP HR
   have hl : l.length ≤ 3000000 := by
    have := lines_short hr
    have e : s.data.toList.length = s.size := by simp
    omega
   clear hr
   go_enter Try.func18, Try.ntmps18
   go_wp2_with (first | (go_at_call 41; refine (HP.out _).mono ?_; rintro e w1 ⟨⟨v1, rfl, ho1⟩, hb1⟩; obtain ⟨ao1, g1, cap1, rfl, hc1⟩ := lines_form ho1; have HC1 : Hid (LineCells w1 ao1 g1 l) := hc1; have HB1 : Hid (Below w.heap.size w w1) := hb1; clear hb1 ho1 hc1) | (go_at_call 42; refine (HR.out _).mono ?_; rintro e w2 ⟨⟨v2, rfl, ho2⟩, hb2⟩; obtain ⟨ao2, g2, cap2, rfl, hc2⟩ := lines_form ho2; have HC2 : Hid (LineCells w2 ao2 g2 l) := hc2; have HC3 : Hid (LineCells w2 ao1 g1 l) := HC1.out.below hb2; have HB2 : Hid (Below w.heap.size w w2) := HB1.out.trans (hb2.mono HB1.out.size); clear hb2 ho2 hc2) | (go_at_call 43; refine (sameLines_any l ao1 ao2 g1 cap1 g2 cap2 _ HC3.out HC2.out hl).mono ?_; rintro e w3 ⟨rfl, hb3⟩; have HB3 : Hid (Below w.heap.size w w3) := HB2.out.trans (hb3.mono HB2.out.size); clear hb3))
   go_ret2
   exact ⟨⟨_, rfl⟩, HB3.out⟩
 go_enter Try.func7, Try.ntmps7
 go_wp2_with (first | (go_at_call 18; refine (HX.out _).mono ?_; rintro e w1 ⟨⟨v1, rfl⟩, hb1⟩; have HB1 : Hid (Below w.heap.size w w1) := hb1; clear hb1))
 go_ret
 exact ⟨rfl, HB1.out⟩
theorem reads_own : ownKnob Try.prog.godebug = none := by kernel_rfl
theorem bulk_one {H : Type} {s : ByteArray} (hk : Rows.uptoSmall H [.lit (.string s.data.toList)] = true) : s.size ≤ 1048576 := by
 have h : Rows.uptoBulkAll [DataW.lit (H := H) (.string s.data.toList)] ≤ 1048576 := of_decide_eq_true hk
 simp only [Rows.uptoBulkAll] at h
 have e : s.data.toList.length = s.size := by rw [Array.length_toList]; rfl
 have e2 : Rows.uptoBulk (DataW.lit (H := H) (.string s.data.toList)) = s.data.toList.length + 1 := by simp only [Rows.uptoBulk]
 omega
set_option maxRecDepth 100000 in
theorem reads_contract (H : Type) (enc : TypeId × Value → H) (W : World) (base : Nat) (args : Array Value) (ds gs : List (DataW H)) (before : List MemPlace)
  (hval0 : ∀ (j : Nat) t v, Try.f7.params[j]? = some t → args[j]? = some v → Value.okWide Try.prog W .any base t v)
  (hW : DataW.Whole enc Try.prog Try.f7.params.toList Rows.readsSpec.vars false W args.toList ds gs before) (hk : Rows.uptoSmall H (ds ++ gs) = true) :
  Calls Try.prog 7 args W fun e W' => ∃ v, e = .returned v ∧ Rows.readsSpec.post enc Try.prog Try.f7 false true false false W args v W' := by
 have hval : ∀ (j : Nat) t v, Try.f7.params[j]? = some t → args[j]? = some v → Value.okWide Try.prog W .any base t v := hval0
 have hW' := hW
 obtain ⟨p, q, hA0, hV, rfl, hfz, hnd⟩ := hW
 have hA : DataW.TrodAll enc Try.prog W 0 (fun _ => true) true Try.f7.params.toList args.toList ds p := hA0
 rw [Try.params7] at hA hval
 obtain ⟨v0, vs0, d0, ds0, p0, q0, hargs, rfl, rfl, h0, r0⟩ := trodAll_cons hA
 obtain ⟨rfl, rfl, rfl⟩ := trodAll_nil r0
 obtain rfl : args = #[v0] := by cases args; simp_all
 obtain ⟨rfl, rfl⟩ := trodVars_none hV
 obtain ⟨a0, rfl, rfl, rfl, w0⟩ := open_string Try.underlying9 (hval 0 9 v0 rfl rfl) h0
 clear hA0 hval0
 simp only [List.append_nil, List.nil_append] at hW' hk
 have hs := bulk_one hk
 refine (read_law a0 W (by omega)).mono fun e W' ⟨he, bel⟩ => ?_
 subst he
 exact ⟨_, rfl, _, _, _, [], [], [], hW', trodAll_mk1 (shut_bool Try.underlying4 _), trodAll_cons_mk (shut_string Try.underlying9 w0) trodAll_mk0, rfl, bel.frame _, fun h => by cases h⟩
set_option maxRecDepth 100000 in
theorem reads_lifted (os : Os) (started : os.Started) (H : Type) (enc : TypeId × Value → H) (F : Stop.Interp) :
  ReturnsInHanded {} Try.checked os 7 .any ((Rows.OpenSpec.upto Rows.readsSpec).pre6 enc Try.prog Try.f7 Rows.readsUptoRow.domain false) (((Rows.OpenSpec.upto Rows.readsSpec).at F).post enc Try.prog Try.f7 false true false false) := by
 refine returnsInHanded_of_cond (C := Try.checked) (s := Rows.OpenSpec.upto Rows.readsSpec) (k := Rows.uptoSmall) rfl reads_own started (by kernel_rfl) Try.func7
  (OpenSpec.witness (enc := enc) (C := Try.checked) (s := Rows.OpenSpec.upto Rows.readsSpec) (k := Rows.uptoSmall) rfl false ⟨#[], #[.string ByteArray.empty], []⟩ 8 (by kernel_rfl) (by kernel_rfl) (by kernel_rfl)
   (x := ([.lit (.string [])], [], [])) (by kernel_rfl) rfl (by kernel_rfl)) ?_
 intro W base args ds gs before hval hW _ hk _
 exact reads_contract H enc W base args ds gs before hval hW hk
theorem reads_over : Rows.readsUptoRow.holds Try.pinned (Rows.OpenSpec.upto Rows.readsSpec) :=
 OpenClaim.holds_of_cond 7 Try.f7 rfl rfl rfl rfl rfl rfl rfl ⟨rfl, rfl, rfl, rfl, rfl⟩ rfl rfl rfl rfl rfl (by kernel_rfl) Try.func7 (by kernel_rfl)
  (of_decide_eq_true (by kernel_rfl)) (by unfold Func.isWrapper; first | (rw [if_pos (by decide +kernel)]; kernel_rfl) | (rw [if_neg (by decide +kernel)]; exact ⟨rfl, rfl⟩))
  (fun os started H enc _ F => reads_lifted os started H enc F)
theorem reads_holds : Rows.ReadsUptoSaid := reads_over
#print axioms reads_holds
end Go.Proofs.Ytdgmoiflahoihaa
