import Derived.Test.YtdgmoiflahoihaaGreatDoorKNSw
import Derived.Test.YtdgmoiflahoihaaGreatDoorRTakew
import Derived.Test.YtdgmoiflahoihaaGreatDoorBDXw
import Derived.Test.YtdgmoiflahoihaaGreatDoorBLPw
import Derived.Test.YtdgmoiflahoihaaGreatDoorXPw

namespace Go.Proofs.YtdgmoiflahoihaaGreatDoor
open Go.RowKit
set_option linter.unusedSimpArgs false
set_option linter.unusedVariables false
set_option maxRecDepth 100000 in
theorem runs_plain (k : Nat) (h : k < 7) : runP (ranAt k).text (ranAt k).fields = (0, (ranAt k).notes) := by
 match k, h with
 | 0, _ => exact (by kernel_rfl : runP (ranAt 0).text (ranAt 0).fields = (0, (ranAt 0).notes))
 | 1, _ => exact (by kernel_rfl : runP (ranAt 1).text (ranAt 1).fields = (0, (ranAt 1).notes))
 | 2, _ => exact (by kernel_rfl : runP (ranAt 2).text (ranAt 2).fields = (0, (ranAt 2).notes))
 | 3, _ => exact (by kernel_rfl : runP (ranAt 3).text (ranAt 3).fields = (0, (ranAt 3).notes))
 | 4, _ => exact (by kernel_rfl : runP (ranAt 4).text (ranAt 4).fields = (0, (ranAt 4).notes))
 | 5, _ => exact (by kernel_rfl : runP (ranAt 5).text (ranAt 5).fields = (0, (ranAt 5).notes))
 | 6, _ => exact (by kernel_rfl : runP (ranAt 6).text (ranAt 6).fields = (0, (ranAt 6).notes))
theorem runs_short (k : Nat) (h : k < 7) : (ranAt k).text.length ≤ 40 ∧ (ranAt k).fields.length ≤ 2 ∧ (ranAt k).notes.length ≤ 4 := by
 match k, h with
 | 0, _ => exact (by decide : (ranAt 0).text.length ≤ 40 ∧ (ranAt 0).fields.length ≤ 2 ∧ (ranAt 0).notes.length ≤ 4)
 | 1, _ => exact (by decide : (ranAt 1).text.length ≤ 40 ∧ (ranAt 1).fields.length ≤ 2 ∧ (ranAt 1).notes.length ≤ 4)
 | 2, _ => exact (by decide : (ranAt 2).text.length ≤ 40 ∧ (ranAt 2).fields.length ≤ 2 ∧ (ranAt 2).notes.length ≤ 4)
 | 3, _ => exact (by decide : (ranAt 3).text.length ≤ 40 ∧ (ranAt 3).fields.length ≤ 2 ∧ (ranAt 3).notes.length ≤ 4)
 | 4, _ => exact (by decide : (ranAt 4).text.length ≤ 40 ∧ (ranAt 4).fields.length ≤ 2 ∧ (ranAt 4).notes.length ≤ 4)
 | 5, _ => exact (by decide : (ranAt 5).text.length ≤ 40 ∧ (ranAt 5).fields.length ≤ 2 ∧ (ranAt 5).notes.length ≤ 4)
 | 6, _ => exact (by decide : (ranAt 6).text.length ≤ 40 ∧ (ranAt 6).fields.length ≤ 2 ∧ (ranAt 6).notes.length ≤ 4)
theorem runs_fields (k : Nat) (h : k < 7) : FsOk (ranAt k).fields := by
 match k, h with
 | 0, _ => exact (by unfold FsOk; decide : FsOk (ranAt 0).fields)
 | 1, _ => exact (by unfold FsOk; decide : FsOk (ranAt 1).fields)
 | 2, _ => exact (by unfold FsOk; decide : FsOk (ranAt 2).fields)
 | 3, _ => exact (by unfold FsOk; decide : FsOk (ranAt 3).fields)
 | 4, _ => exact (by unfold FsOk; decide : FsOk (ranAt 4).fields)
 | 5, _ => exact (by unfold FsOk; decide : FsOk (ranAt 5).fields)
 | 6, _ => exact (by unfold FsOk; decide : FsOk (ranAt 6).fields)
def billT : List UInt8 := [63, 112, 58, 45, 59, 63, 99, 58, 67, 59, 62, 45, 112, 59, 62, 67, 32, 112, 45, 99, 59]
def bill0 : List UInt8 := [49, 48, 58, 49, 48, 48, 10]
def bill4 : List UInt8 := [49, 48, 58, 49, 48, 48, 10, 49, 52, 58, 51, 48, 10]
set_option maxRecDepth 100000 in
theorem bill0_plain : billP 0 (runP billT [100, 70]) = (0, bill0) := by kernel_rfl
set_option maxRecDepth 100000 in
theorem bill4_plain : billP 4 (runP billT [100, 70]) = (0, bill4) := by kernel_rfl
def badL : List (List UInt8) := [[51, 58, 45, 48, 10],
 [48, 51, 58, 49, 10],
 [51, 58, 49],
 [51, 58, 33, 51, 10],
 [52, 48, 49, 58, 49, 10],
 [10],
 [51, 58, 10],
 [45, 49, 58, 49, 10],
 [51, 58, 57, 50, 50, 51, 51, 55, 50, 48, 51, 54, 56, 53, 52, 55, 55, 53, 56, 48, 56, 10]]
def badAt (k : Nat) : List UInt8 := badL.getD k []
set_option maxRecDepth 100000 in
theorem bads_plain (k : Nat) (h : k < 9) : readP (badAt k) = none := by
 match k, h with
 | 0, _ => exact (by kernel_rfl : readP (badAt 0) = none)
 | 1, _ => exact (by kernel_rfl : readP (badAt 1) = none)
 | 2, _ => exact (by kernel_rfl : readP (badAt 2) = none)
 | 3, _ => exact (by kernel_rfl : readP (badAt 3) = none)
 | 4, _ => exact (by kernel_rfl : readP (badAt 4) = none)
 | 5, _ => exact (by kernel_rfl : readP (badAt 5) = none)
 | 6, _ => exact (by kernel_rfl : readP (badAt 6) = none)
 | 7, _ => exact (by kernel_rfl : readP (badAt 7) = none)
 | 8, _ => exact (by kernel_rfl : readP (badAt 8) = none)
theorem bads_short (k : Nat) (h : k < 9) : (badAt k).length ≤ 40 := by
 match k, h with
 | 0, _ => exact (by decide : (badAt 0).length ≤ 40)
 | 1, _ => exact (by decide : (badAt 1).length ≤ 40)
 | 2, _ => exact (by decide : (badAt 2).length ≤ 40)
 | 3, _ => exact (by decide : (badAt 3).length ≤ 40)
 | 4, _ => exact (by decide : (badAt 4).length ≤ 40)
 | 5, _ => exact (by decide : (badAt 5).length ≤ 40)
 | 6, _ => exact (by decide : (badAt 6).length ≤ 40)
 | 7, _ => exact (by decide : (badAt 7).length ≤ 40)
 | 8, _ => exact (by decide : (badAt 8).length ≤ 40)
def exA : List Ic := [⟨1, 0, 5, 0⟩, ⟨14, 3, 1, 0⟩, ⟨12, 1, 0, 0⟩]
def exB : List Ic := [⟨1, 0, 5, 0⟩, ⟨14, 3, 1, 0⟩, ⟨0, 0, 0, 0⟩]
theorem execF_none {l : List Ic} (hv : (validI l).1 = 0) (h0 : ∀ i (h : i < l.length), l[i].op ≠ 0) (fs : List Int) : ∀ (f : Nat) (s : XS), s.pc < l.length → execF l fs f s = none
 | 0, _, _ => rfl
 | f + 1, s, hp => by
  unfold execF
  have e : l.getD s.pc ⟨0, 0, 0, 0⟩ = l[s.pc] := by rw [List.getD_eq_getElem?_getD, List.getElem?_eq_getElem hp]; rfl
  rw [e, if_neg (h0 _ hp)]
  exact execF_none hv h0 fs f _ (stepX_pc hv hp (h0 _ hp) fs)
theorem exA_valid : (validI exA).1 = 0 := by decide
theorem exA_plain : execI exA [] = (8, []) := by
 unfold execI
 rw [if_neg (by rw [exA_valid]; decide), if_pos (by decide), execF_none exA_valid (by decide) [] 50000 x0 (by decide)]
theorem exB_valid : (validI exB).1 = 0 := by decide
theorem exB_plain : execI exB [] = (0, [⟨0, 3, 1, ⟨5, 0⟩⟩]) := by
 unfold execI
 rw [if_neg (by rw [exB_valid]; decide), if_pos (by decide)]
 have e : execF exB [] 50000 x0 = some [⟨0, 3, 1, ⟨5, 0⟩⟩] := by
  have k : ∀ f, execF exB [] (f + 3) x0 = some [⟨0, 3, 1, ⟨5, 0⟩⟩] := fun f => by kernel_rfl
  exact k 49997
 rw [e]
end Go.Proofs.YtdgmoiflahoihaaGreatDoor
