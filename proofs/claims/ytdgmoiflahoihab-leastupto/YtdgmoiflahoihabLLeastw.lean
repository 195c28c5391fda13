import Derived.Test.YtdgmoiflahoihabRows
import Derived.Test.YtdgmoiflahoihabLSLw
import Derived.Test.YtdgmoiflahoihabKSmw
import Derived.WalkKit
import Derived.ProofKit
import Derived.OpenShut
import Derived.ShutString
import Derived.ChangeOld
import Derived.Below
import Derived.JoinedCond

namespace Go.Proofs.Ytdgmoiflahoihab
open Go.ChangeShapes Go.WideShapes Go.ChangeAt Go.RowKit
open Go.ChangeMaps (open_string shut_string)
set_option linter.unusedSimpArgs false
set_option linter.unusedVariables false
def flowT : List UInt8 := [63, 97, 58, 65, 59, 62, 45, 97, 59]
theorem wf_int {a : Int} (h : (Lit.int .i64 a).wf = true) : -9223372036854775808 ≤ a ∧ a ≤ 9223372036854775807 := by
 simp only [Lit.wf, IntKind.min, IntKind.max, IntKind.signed, IntKind.bits, Bool.and_eq_true, decide_eq_true_eq, if_true] at h
 exact ⟨by omega, by omega⟩
set_option maxRecDepth 100000 in
theorem flow_check : checkP flowT = (5, 5) := by kernel_rfl
theorem smpl_fine {i : Nat} (h : i < 8) : (checkP (smpl i)).1 = 0 := by
 have := smpl_good h
 unfold smGood at this
 simp only [Bool.and_eq_true, beq_iff_eq] at this
 exact this.1.1.1.1
set_option maxRecDepth 100000 in
set_option maxHeartbeats 2000000 in
theorem least_law (s : ByteArray) (c : Int) (w : World) (hs : s.size ≤ 2000000) (hc : -9223372036854775808 ≤ c ∧ c ≤ 9223372036854775807) :
  Calls Try.prog 4 #[.string s, .int .i64 c] w fun e w' => e = .returned (.bool true) ∧ Below w.heap.size w w' := by
 have hp := pickN_lt c (n := 8) (by decide)
 have HSM : Hid (∀ w, Calls Try.prog 9 #[.int .i64 c] w fun e w' => e = .returned (.string (smplS (pickN c 8))) ∧ Below w.heap.size w w') := fun w => sample_any c hc w
 have hfine := smpl_fine hp
 have hl400 := (fineT hfine).len
 have hU1 : ∀ w, Calls Try.prog 10 #[.string (smplS (pickN c 8))] w fun e w' => (∃ n : Nat, e = .returned (.tuple #[.int .i64 n, .bool true])) ∧ Below w.heap.size w w' := fun w => by
  refine (usable_any (smplS (pickN c 8)) w (by show (smpl (pickN c 8)).length ≤ _; omega)).mono ?_
  rintro e w' ⟨rfl, hb⟩
  refine ⟨⟨(hdsL 63 (smplS (pickN c 8)).data.toList).length, ?_⟩, hb⟩
  have : ((checkP (smplS (pickN c 8)).data.toList).1 == 0) = true := by
   rw [show (smplS (pickN c 8)).data.toList = smpl (pickN c 8) by simp [smplS], hfine]
   rfl
  rw [this]
 have HU1 : Hid (∀ w, Calls Try.prog 10 #[.string (smplS (pickN c 8))] w fun e w' => (∃ n : Nat, e = .returned (.tuple #[.int .i64 n, .bool true])) ∧ Below w.heap.size w w') := hU1
 have HLS : Hid (∀ w, Calls Try.prog 13 #[.string (smplS (pickN c 8))] w fun e w' => e = .returned (.bool true) ∧ Below w.heap.size w w') := fun w => least_any _ w (by rw [show (smplS (pickN c 8)).data.toList = smpl (pickN c 8) by simp [smplS]]; exact hfine)
 have HLB : Hid (∀ w, Calls Try.prog 11 #[] w fun e w' => e = .returned (.bool true) ∧ Below w.heap.size w w') := fun w => labelled_any w
 have HCK : Hid (∀ w, Calls Try.prog 12 #[.string ⟨#[63, 97, 58, 65, 59, 62, 45, 97, 59]⟩] w fun e w' => e = .returned (.tuple #[.int .i64 5, .int .i64 5]) ∧ Below w.heap.size w w') := fun w => check_list flowT w (by decide) 5 5 flow_check
 have HU2 : Hid (∀ w, Calls Try.prog 10 #[.string s] w fun e w' => (∃ n : Nat, e = .returned (.tuple #[.int .i64 n, .bool ((checkP s.data.toList).1 == 0)])) ∧ Below w.heap.size w w') := fun w => (usable_any s w hs).mono (by rintro e w' ⟨rfl, hb⟩; exact ⟨⟨_, rfl⟩, hb⟩)
 clear hU1 hfine hl400 hp
 generalize smplS (pickN c 8) = T at *
 by_cases hok : (checkP s.data.toList).1 = 0
 ·have HL2 : Hid (∀ w, Calls Try.prog 13 #[.string s] w fun e w' => e = .returned (.bool true) ∧ Below w.heap.size w w') := fun w => least_any s w hok
  have e : ((checkP s.data.toList).1 == 0) = true := by rw [hok]; rfl
  rw [e] at HU2
  clear e hok
  go_enter Try.func4, Try.ntmps4
  go_wp2_with (first | (go_at_call 9; refine (HSM.out _).mono ?_; rintro e w1 ⟨rfl, hb1⟩; have HB1 : Hid (Below w.heap.size w w1) := hb1; clear hb1) | (go_at_call 11; refine (HLB.out _).mono ?_; rintro e w3 ⟨rfl, hb3⟩; have HB3 : Hid (Below w.heap.size w w3) := HB2.out.trans (hb3.mono HB2.out.size); clear hb3) | (go_at_call 12; refine (HCK.out _).mono ?_; rintro e w4 ⟨rfl, hb4⟩; have HB4 : Hid (Below w.heap.size w w4) := HB3.out.trans (hb4.mono HB3.out.size); clear hb4) | (go_at_call 10; refine (HU2.out w5).mono ?_; rintro e w6 ⟨⟨n6, rfl⟩, hb6⟩; have HB6 : Hid (Below w.heap.size w w6) := HB5.out.trans (hb6.mono HB5.out.size); clear hb6) | (go_at_call 10; refine (HU1.out w1).mono ?_; rintro e w2 ⟨⟨n2, rfl⟩, hb2⟩; have HB2 : Hid (Below w.heap.size w w2) := HB1.out.trans (hb2.mono HB1.out.size); clear hb2) | (go_at_call 13; refine (HL2.out w6).mono ?_; rintro e w7 ⟨rfl, hb7⟩; have HB7 : Hid (Below w.heap.size w w7) := HB6.out.trans (hb7.mono HB6.out.size); clear hb7) | (go_at_call 13; refine (HLS.out w4).mono ?_; rintro e w5 ⟨rfl, hb5⟩; have HB5 : Hid (Below w.heap.size w w5) := HB4.out.trans (hb5.mono HB4.out.size); clear hb5))
  go_ret
  exact ⟨rfl, HB7.out⟩
 ·have e : ((checkP s.data.toList).1 == 0) = false := by rw [beq_eq_false_iff_ne]; exact hok
  rw [e] at HU2
  clear e hok
  go_enter Try.func4, Try.ntmps4
  go_wp2_with (first | (go_at_call 9; refine (HSM.out _).mono ?_; rintro e w1 ⟨rfl, hb1⟩; have HB1 : Hid (Below w.heap.size w w1) := hb1; clear hb1) | (go_at_call 11; refine (HLB.out _).mono ?_; rintro e w3 ⟨rfl, hb3⟩; have HB3 : Hid (Below w.heap.size w w3) := HB2.out.trans (hb3.mono HB2.out.size); clear hb3) | (go_at_call 12; refine (HCK.out _).mono ?_; rintro e w4 ⟨rfl, hb4⟩; have HB4 : Hid (Below w.heap.size w w4) := HB3.out.trans (hb4.mono HB3.out.size); clear hb4) | (go_at_call 10; refine (HU2.out w5).mono ?_; rintro e w6 ⟨⟨n6, rfl⟩, hb6⟩; have HB6 : Hid (Below w.heap.size w w6) := HB5.out.trans (hb6.mono HB5.out.size); clear hb6) | (go_at_call 10; refine (HU1.out w1).mono ?_; rintro e w2 ⟨⟨n2, rfl⟩, hb2⟩; have HB2 : Hid (Below w.heap.size w w2) := HB1.out.trans (hb2.mono HB1.out.size); clear hb2) | (go_at_call 13; refine (HLS.out w4).mono ?_; rintro e w5 ⟨rfl, hb5⟩; have HB5 : Hid (Below w.heap.size w w5) := HB4.out.trans (hb5.mono HB4.out.size); clear hb5))
  go_ret
  exact ⟨rfl, HB6.out⟩
theorem least_own : ownKnob Try.prog.godebug = none := by kernel_rfl
theorem bulk_two {H : Type} {s : ByteArray} {d1 : DataW H} (hk : Rows.uptoSmall H [.lit (.string s.data.toList), d1] = true) : s.size ≤ 1048576 := by
 have h : Rows.uptoBulkAll [DataW.lit (H := H) (.string s.data.toList), d1] ≤ 1048576 := of_decide_eq_true hk
 simp only [Rows.uptoBulkAll] at h
 have e : s.data.toList.length = s.size := by rw [Array.length_toList]; rfl
 have e2 : Rows.uptoBulk (DataW.lit (H := H) (.string s.data.toList)) = s.data.toList.length + 1 := by simp only [Rows.uptoBulk]
 omega
set_option maxRecDepth 100000 in
theorem least_contract (H : Type) (enc : TypeId × Value → H) (W : World) (base : Nat) (args : Array Value) (ds gs : List (DataW H)) (before : List MemPlace)
  (hval0 : ∀ (j : Nat) t v, Try.f4.params[j]? = some t → args[j]? = some v → Value.okWide Try.prog W .any base t v)
  (hW : DataW.Whole enc Try.prog Try.f4.params.toList Rows.leastSpec.vars false W args.toList ds gs before) (hk : Rows.uptoSmall H (ds ++ gs) = true) :
  Calls Try.prog 4 args W fun e W' => ∃ v, e = .returned v ∧ Rows.leastSpec.post enc Try.prog Try.f4 false true false false W args v W' := by
 have hval : ∀ (j : Nat) t v, Try.f4.params[j]? = some t → args[j]? = some v → Value.okWide Try.prog W .any base t v := hval0
 have hW' := hW
 obtain ⟨p, q, hA0, hV, rfl, hfz, hnd⟩ := hW
 have hA : DataW.TrodAll enc Try.prog W 0 (fun _ => true) true Try.f4.params.toList args.toList ds p := hA0
 rw [Try.params4] at hA hval
 obtain ⟨v0, vs0, d0, ds0, p0, q0, hargs, rfl, rfl, h0, r0⟩ := trodAll_cons hA
 obtain ⟨v1, vs1, d1, ds1, p1, q1, rfl, rfl, rfl, h1, r1⟩ := trodAll_cons r0
 obtain ⟨rfl, rfl, rfl⟩ := trodAll_nil r1
 obtain rfl : args = #[v0, v1] := by cases args; simp_all
 obtain ⟨rfl, rfl⟩ := trodVars_none hV
 obtain ⟨a0, rfl, rfl, rfl, w0⟩ := open_string Try.underlying9 (hval 0 9 v0 rfl rfl) h0
 obtain ⟨a1, rfl, rfl, rfl, w1⟩ := open_int Try.underlying3 (hval 1 3 v1 rfl rfl) h1
 clear hA0 hval0
 simp only [List.append_nil, List.nil_append] at hW' hk
 have hs := bulk_two hk
 refine (least_law a0 a1 W (by omega) (wf_int w1)).mono fun e W' ⟨he, bel⟩ => ?_
 subst he
 exact ⟨_, rfl, _, _, _, [], _, [], hW', trodAll_mk1 (shut_bool Try.underlying4 _), trodAll_cons_mk (shut_string Try.underlying9 w0) (trodAll_cons_mk (shut_int Try.underlying3 w1) trodAll_mk0), rfl, bel.frame _, fun h => by cases h⟩
set_option maxRecDepth 100000 in
theorem least_lifted (os : Os) (started : os.Started) (H : Type) (enc : TypeId × Value → H) (F : Stop.Interp) :
  ReturnsInHanded {} Try.checked os 4 .any ((Rows.OpenSpec.upto Rows.leastSpec).pre6 enc Try.prog Try.f4 Rows.leastUptoRow.domain false) (((Rows.OpenSpec.upto Rows.leastSpec).at F).post enc Try.prog Try.f4 false true false false) := by
 refine returnsInHanded_of_cond (C := Try.checked) (s := Rows.OpenSpec.upto Rows.leastSpec) (k := Rows.uptoSmall) rfl least_own started (by kernel_rfl) Try.func4
  (OpenSpec.witness (enc := enc) (C := Try.checked) (s := Rows.OpenSpec.upto Rows.leastSpec) (k := Rows.uptoSmall) rfl false ⟨#[], #[.string ByteArray.empty, .int .i64 0], []⟩ 8 (by kernel_rfl) (by kernel_rfl) (by kernel_rfl)
   (x := ([.lit (.string []), .lit (.int .i64 0)], [], [])) (by kernel_rfl) rfl (by kernel_rfl)) ?_
 intro W base args ds gs before hval hW _ hk _
 exact least_contract H enc W base args ds gs before hval hW hk
theorem least_over : Rows.leastUptoRow.holds Try.pinned (Rows.OpenSpec.upto Rows.leastSpec) :=
 OpenClaim.holds_of_cond 4 Try.f4 rfl rfl rfl rfl rfl rfl rfl ⟨rfl, rfl, rfl, rfl, rfl⟩ rfl rfl rfl rfl rfl (by kernel_rfl) Try.func4 (by kernel_rfl)
  (of_decide_eq_true (by kernel_rfl)) (by unfold Func.isWrapper; first | (rw [if_pos (by decide +kernel)]; kernel_rfl) | (rw [if_neg (by decide +kernel)]; exact ⟨rfl, rfl⟩))
  (fun os started H enc _ F => least_lifted os started H enc F)
theorem least_holds : Rows.LeastUptoSaid := least_over
#print axioms least_holds
end Go.Proofs.Ytdgmoiflahoihab
