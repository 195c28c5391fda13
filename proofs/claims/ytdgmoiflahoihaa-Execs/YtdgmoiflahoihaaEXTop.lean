import Derived.Test.YtdgmoiflahoihaaEXD6

namespace Go.Proofs.Ytdgmoiflahoihaa
open Go.RowKit
set_option linter.unusedSimpArgs false
set_option linter.unusedVariables false
theorem execF_few (l : List Ic) (fs : List Int) : ∀ (f : Nat) (s : XS) (N : List Nt), execF l fs f s = some N → N.length ≤ s.notes.length + f
 | 0, s, N, h => by cases h
 | f + 1, s, N, h => by
  rw [execF] at h
  split at h
  ·cases h; omega
  ·have := execF_few l fs f _ N h
   have := stepX_notes (l.getD s.pc ⟨0, 0, 0, 0⟩) fs s
   omega
theorem execI_few (l : List Ic) (fs : List Int) : (execI l fs).2.length ≤ 50000 := by
 unfold execI
 split
 ·simp
 split
 ·cases h : execF l fs 50000 x0 with
  | none => simp
  | some N =>
   have := execF_few l fs 50000 x0 N h
   simp [x0] at this
   simpa using this
 ·simp
theorem progExec_any (l : List Ic) (fs : List Int) (ao af : Option Addr) (g o cap gf of capf : Nat) (w : World) (hc : InsCells w ao g o l) (hf : NumCells w af gf of fs) (hfl : fs.length ≤ 9223372036854775807) (hlo : ∀ x ∈ l, -9223372036854775808 ≤ x.b ∧ x.b ≤ 9223372036854775807) (hfo : FsOk fs) :
  Calls Try.prog 64 #[.slice ao l.length cap, .slice af fs.length capf] w (ExecPost w (execI l fs)) := by
 by_cases h : (validI l).1 = 0
 ·cases h2 : hasI l fs.length with
  | false => exact progExec_input l fs ao af g o cap gf of capf w hc hf hfl h h2
  | true => exact progExec_run l fs ao af g o cap gf of capf w hc hf hfl (fun i hi => (hf i hi).2.1) hlo hfo h h2
 ·exact progExec_bad l fs ao af g o cap gf of capf w hc hf hfl h
set_option maxHeartbeats 1000000 in
theorem tariffExec_any (l : List Ic) (fs : List Int) (ao af : Option Addr) (g o cap gf of capf : Nat) (w : World) (hc : InsCells w ao g o l) (hf : NumCells w af gf of fs) (hfl : fs.length ≤ 9223372036854775807) (hlo : ∀ x ∈ l, -9223372036854775808 ≤ x.b ∧ x.b ≤ 9223372036854775807) (hfo : FsOk fs) :
  Calls Try.prog 37 #[.slice ao l.length cap, .slice af fs.length capf] w (ExecPost w (execI l fs)) := by
 have HH : Hid (Calls Try.prog 64 #[.slice ao l.length cap, .slice af fs.length capf] w (ExecPost w (execI l fs))) := progExec_any l fs ao af g o cap gf of capf w hc hf hfl hlo hfo
 generalize execI l fs = R at *
 clear hc hf hlo hfo
 go_enter Try.func37, Try.ntmps37
 go_wp2_with fail
 refine HH.out.mono ?_
 rintro e w1 ⟨⟨vn, rfl, h1, h2⟩, hb⟩
 go_wp2_with fail
 go_ret2
 exact ⟨⟨vn, rfl, h1, h2⟩, hb⟩
end Go.Proofs.Ytdgmoiflahoihaa
