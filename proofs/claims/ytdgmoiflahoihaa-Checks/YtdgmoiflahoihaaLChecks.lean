import Derived.Test.YtdgmoiflahoihaaRows
import Derived.Test.YtdgmoiflahoihaaCRef
import Derived.Test.YtdgmoiflahoihaaPCheck
import Derived.Test.YtdgmoiflahoihaaKTop
import Derived.WalkKit
import Derived.ProofKit
import Derived.OpenShut
import Derived.ShutString
import Derived.ChangeOld
import Derived.Below

/- The law 'Checks': the program answers as the reference at every text. -/
namespace Go.Proofs.Ytdgmoiflahoihaa
open Go.ChangeShapes Go.WideShapes Go.ChangeAt Go.RowKit
open Go.ChangeMaps (open_string shut_string)
set_option linter.unusedVariables false

theorem check_prog (s : ByteArray) (w : World) (r : Int × Int) (hs : s.size ≤ maxLen) (hr : checkP s.data.toList = r) :
    Calls Try.prog 9 #[.string s] w fun e w' => e = .returned (.tuple #[.int .i64 r.1, .int .i64 r.2]) ∧ Below w.heap.size w w' := by
  have hsl : s.data.toList.length = s.size := by simp
  rw [← hr]
  exact tariffCheck_any s w hs (fun h hb => parse_ok (by omega) hb)

set_option maxRecDepth 100000 in
set_option maxHeartbeats 2000000 in
theorem checks_walk (s : ByteArray) (hs : s.size ≤ maxLen) (w : World) :
    Calls Try.prog 3 #[.string s] w fun e w' => e = .returned (.bool true) ∧ Below w.heap.size w w' := by
  generalize hr : checkP s.data.toList = r
  have HR : Hid (checkP s.data.toList = r) := hr
  have HC : Hid (checkC s.data.toList = some r) := by show _ = _; rw [← hr]; exact check_eq _
  clear hr
  obtain ⟨r1, r2⟩ := r
  go_enter Try.func3, Try.ntmps3
  go_wp2_with (first | (go_at_call 9; refine (check_prog s _ (r1, r2) hs HR.out).mono ?_; rintro e1 w1 ⟨rfl, hb1⟩) | (go_at_call 10; refine (refCheck_any s _ (r1, r2) hs HC.out).mono ?_; rintro e2 w2 ⟨rfl, hb2⟩))
  go_ret
  exact ⟨rfl, hb1.trans (hb2.mono hb1.size)⟩

theorem checks_own : ownKnob Try.prog.godebug = none := by kernel_rfl

set_option maxRecDepth 100000 in
theorem checks_lifted (os : Os) (started : os.Started) (H : Type) (enc : TypeId × Value → H) :
    ReturnsInHanded {} Try.checked os 3 .any (Rows.checksSpec.pre6 enc Try.prog Try.f3 Rows.checksRow.domain false) (Rows.checksSpec.post enc Try.prog Try.f3 false true false false) := by
  refine returnsInHanded_of_change (C := Try.checked) checks_own started (by kernel_rfl) Try.func3
    (ChangeSpec.witness6 (enc := enc) (C := Try.checked) false ⟨#[], #[.string ByteArray.empty], []⟩ 8 (by kernel_rfl) (by kernel_rfl) (by kernel_rfl) (by kernel_rfl)) ?_
  intro W base args ds gs before hval0 hW hcnd _
  have hval : ∀ (j : Nat) t v, Try.f3.params[j]? = some t → args[j]? = some v → Value.okWide Try.prog W .any base t v := hval0
  have hW' := hW
  obtain ⟨p, q, hA0, hV, rfl, hfz, hnd⟩ := hW
  have hA : DataW.TrodAll enc Try.prog W 0 (fun _ => true) true Try.f3.params.toList args.toList ds p := hA0
  rw [Try.params3] at hA hval
  obtain ⟨v0, vs0, d0, ds0, p0, q0, hargs, rfl, rfl, h0, r0⟩ := trodAll_cons hA
  obtain ⟨rfl, rfl, rfl⟩ := trodAll_nil r0
  obtain rfl : args = #[v0] := by cases args; simp_all
  obtain ⟨rfl, rfl⟩ := trodVars_none hV
  obtain ⟨a0, rfl, rfl, rfl, w0⟩ := open_string Try.underlying9 (hval 0 9 v0 rfl rfl) h0
  clear hA0 hval0
  refine (checks_walk a0 w0 W).mono fun e W' ⟨he, bel⟩ => ?_
  subst he
  exact ⟨_, rfl, _, _, _, [], [], [], hW', trodAll_mk1 (shut_bool Try.underlying4 _), trodAll_cons_mk (shut_string Try.underlying9 w0) trodAll_mk0, rfl, bel.frame _, fun h => by cases h⟩

theorem checks_over : Rows.checksRow.holds Try.pinned (OpenSpec.ofChange Rows.checksSpec) :=
  OpenClaim.holds_of_wide 3 Try.f3 rfl rfl rfl rfl rfl rfl rfl ⟨rfl, rfl, rfl, rfl, rfl⟩ rfl rfl rfl rfl rfl (by kernel_rfl) Try.func3 (by kernel_rfl)
    (of_decide_eq_true (by kernel_rfl)) (by unfold Func.isWrapper; first | (rw [if_pos (by decide +kernel)]; kernel_rfl) | (rw [if_neg (by decide +kernel)]; exact ⟨rfl, rfl⟩))
    (fun os started H enc _ => checks_lifted os started H enc)

/-- The statement. -/
theorem checks_holds : Rows.ChecksSaid := checks_over
#print axioms checks_holds

end Go.Proofs.Ytdgmoiflahoihaa
