import Derived.Test.YtdgmoiflahoihaaGreatDoorLNtw
import Derived.Test.YtdgmoiflahoihaaGreatDoorKPickw

namespace Go.Proofs.YtdgmoiflahoihaaGreatDoor
open Go.RowKit
set_option linter.unusedSimpArgs false
set_option linter.unusedVariables false
set_option maxRecDepth 100000 in
set_option maxHeartbeats 2000000 in
theorem ksameNotes_any (l : List Nt) (ao bo : Option Addr) (g cap g2 cap2 : Nat) (w : World) (hc : NoteCells w ao g l) (hd : NoteCells w bo g2 l) (hn : l.length ≤ 1000000) :
  Calls Tryz.prog 19 #[.slice ao l.length cap, .slice bo l.length cap2] w fun e w' => e = .returned (.bool true) ∧ Below w.heap.size w w' := by
 have HC : Hid (NoteCells w ao g l) := hc
 have HD : Hid (NoteCells w bo g2 l) := hd
 clear hc hd
 have t0 : ((l.length : Int) != (l.length : Int)) = false := by simp
 go_enter Tryz.func19, Tryz.ntmps19
 go_wp2_with fail
 go_loopw [5] (fun x w' => ∃ k : Nat, x = .int .i64 k ∧ k ≤ l.length ∧ Hid (Below w.heap.size w w')) (fun x _ => l.length - (intOf x).toNat)
 case atStart => exact ⟨0, rfl, by omega, Below.refl _ _⟩
 case round =>
  obtain ⟨k, rfl, hk, HB⟩ := hrel
  by_cases hlt : k < l.length
  ·have tk : decide ((k : Int) < (l.length : Int)) = true := by simp; omega
   obtain ⟨ea, hg, c0, c1, c2, c3, c4⟩ := HC.out.below HB.out k hlt
   obtain ⟨eb, hg2, d0, d1, d2, d3, d4⟩ := HD.out.below HB.out k hlt
   clear HC HD
   subst ea eb
   generalize l[k] = p at *
   obtain ⟨p0, p1, p2, ⟨p3, p4⟩⟩ := p
   simp only at c0 c1 c2 c3 c4 d0 d1 d2 d3 d4
   go_upto_region 6 with fail
   go_region
   all_goals go_wp2_with fail
   all_goals go_roundw
   case rel => exact ⟨k + 1, by go_num, by omega, HB.out.drew⟩
   case measure => simp [intOf]; omega
  ·have tk : decide ((k : Int) < (l.length : Int)) = false := by simp; omega
   go_wp2_with fail
   go_ret
   exact ⟨rfl, HB.out⟩
end Go.Proofs.YtdgmoiflahoihaaGreatDoor
