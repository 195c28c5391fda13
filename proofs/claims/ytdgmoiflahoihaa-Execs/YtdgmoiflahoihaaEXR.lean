import Derived.Test.YtdgmoiflahoihaaEXT
import Derived.Test.YtdgmoiflahoihaaEVR
import Derived.Laws.MakeOwn

namespace Go.Proofs.Ytdgmoiflahoihaa
open Go.RowKit
set_option linter.unusedSimpArgs false
set_option linter.unusedVariables false
def TurnSays : Prop := ∀ (n : Nat) (x : Ic) (g : Nat) (s : XS) (w : World) (fs : List Int) (af : Option Addr) (gf of capf : Nat), DoOk n fs.length x → n ≤ 2000 → RegsAt w g s.regs → XOk s → s.pc ≤ 2000 → fs.length ≤ 9223372036854775807 → NumCells w af gf of fs →
 Calls Try.prog 65 #[icV x, .int .i64 s.pc, .slice (some ⟨g, 0, none⟩) 100 100, .slice af fs.length capf] w (TurnPost w g (stepX x fs s))
theorem infoVal2 : (Try.prog.info? 45).map (fun i => (i.zero, i.size, i.bytes)) = some (some (.agg #[.int .i64 0, .int .i64 0]), 2, 16) := by kernel_rfl
theorem made_regs : madeCells (Value.agg #[.int .i64 0, .int .i64 0]).cells (Int.toNat 100 * 2) = vlArr regs0 := by kernel_rfl
theorem make_regs (w : World) : (Instr.makeSlice 110 (.int .i64 100) (.int .i64 100)).run Try.prog w = .ok (.slice (some ⟨w.heap.size, 0, none⟩) 100 100) (w.alloc (.cells (vlArr regs0) 45)) := by
 obtain ⟨i, hi, hz, hs, hb⟩ := parts_of_info infoVal2
 have k := run_make (P := Try.prog) w 110 45 i _ Try.underlying110 hi hz .i64 .i64 100 100 (by decide) (by decide) (by rw [hb]; decide) (by decide)
 rw [hs, made_regs] at k
 exact k
set_option maxRecDepth 100000 in
set_option maxHeartbeats 2000000 in
theorem refExec_bad (l : List Ic) (fs : List Int) (ao af : Option Addr) (g o cap gf of capf : Nat) (w : World) (hc : InsCells w ao g o l) (hf : NumCells w af gf of fs) (hfl : fs.length ≤ 9223372036854775807) (h : (validI l).1 ≠ 0) :
  Calls Try.prog 38 #[.slice ao l.length cap, .slice af fs.length capf] w (ExecPost w (execI l fs)) := by
 have HE : Hid (execI l fs = ((validI l).1, [])) := by show _ = _; unfold execI; rw [if_pos h]
 rw [HE.out]
 have HV : Hid (Calls Try.prog 15 #[.slice ao l.length cap] w fun e w' => e = .returned (.tuple #[.int .i64 (validI l).1, .int .i64 (validI l).2]) ∧ Below w.heap.size w w') := refValid_any l ao g o cap w hc
 clear hc hf HE
 generalize validI l = y at *
 obtain ⟨y1, y2⟩ := y
 simp only at HV h ⊢
 have t : (y1 != 0) = true := by simpa using h
 go_enter Try.func38, Try.ntmps38
 go_wp2_with (go_at_call 15; refine HV.out.mono ?_; rintro e w1 ⟨rfl, hb1⟩)
 go_ret2
 exact ⟨⟨_, rfl, fun _ => rfl, World.ownsRow_nil ..⟩, hb1⟩
set_option maxRecDepth 100000 in
set_option maxHeartbeats 2000000 in
theorem refExec_input (l : List Ic) (fs : List Int) (ao af : Option Addr) (g o cap gf of capf : Nat) (w : World) (hc : InsCells w ao g o l) (hf : NumCells w af gf of fs) (hfl : fs.length ≤ 9223372036854775807) (h : (validI l).1 = 0) (h2 : hasI l fs.length = false) :
  Calls Try.prog 38 #[.slice ao l.length cap, .slice af fs.length capf] w (ExecPost w (execI l fs)) := by
 have HE : Hid (execI l fs = (6, [])) := by show _ = _; unfold execI; rw [if_neg (by omega), if_neg (by rw [h2]; decide)]
 rw [HE.out]
 have HV : Hid (Calls Try.prog 15 #[.slice ao l.length cap] w fun e w' => e = .returned (.tuple #[.int .i64 (validI l).1, .int .i64 (validI l).2]) ∧ Below w.heap.size w w') := refValid_any l ao g o cap w hc
 obtain ⟨_, hln, _⟩ := valid_all h
 have HC : Hid (InsCells w ao g o l) := hc
 have H2 : Hid (hasI l fs.length = false) := h2
 clear hc hf HE h2
 rw [h] at HV
 clear h
 generalize hy : (validI l).2 = y2 at *
 clear hy
 go_enter Try.func38, Try.ntmps38
 go_wp2_with (go_at_call 15; refine HV.out.mono ?_; rintro e w1 ⟨rfl, hb1⟩; have HB1 : Hid (Below w.heap.size w w1) := hb1; clear hb1)
 go_loopw [8] (fun x w' => ∃ k : Nat, x = .int .i64 k ∧ k ≤ l.length ∧ w' = w1 ∧ Hid (∀ j, ∀ hj : j < l.length, j < k → ¬ (l[j].op = 11 ∧ (fs.length : Int) ≤ l[j].b))) (fun x _ => l.length - (intOf x).toNat)
 case atStart => exact ⟨0, rfl, by omega, rfl, fun j hj h => absurd h (by omega)⟩
 case round =>
  obtain ⟨k, rfl, hk, rfl, HA⟩ := hrel
  by_cases hlt : k < l.length
  ·have tk : decide ((k : Int) < (l.length : Int)) = true := by simp; omega
   obtain ⟨e0, hg, c0, c1, c2, c3⟩ := HC.out.below HB1.out k hlt
   have HS : Hid (¬ (l[k].op = 11 ∧ (fs.length : Int) ≤ l[k].b) → ∀ j, ∀ hj : j < l.length, j < k + 1 → ¬ (l[j].op = 11 ∧ (fs.length : Int) ≤ l[j].b)) := by
    intro hn j hj hjk
    rcases Nat.lt_or_ge j k with h' | h'
    ·exact HA.out j hj h'
    ·have : j = k := by omega
     subst this
     exact hn
   generalize l[k] = p at *
   obtain ⟨po, pa, pb, pc⟩ := p
   simp only at c0 c1 c2 c3 HS
   subst e0
   by_cases h11 : po = 11
   ·subst h11
    by_cases hb : (fs.length : Int) ≤ pb
    ·have tb : decide ((fs.length : Int) ≤ pb) = true := by simpa using hb
     clear HS
     go_wp2_with fail
     go_ret2
     exact ⟨⟨_, rfl, fun _ => rfl, World.ownsRow_nil ..⟩, HB1.out⟩
    ·have tb : decide ((fs.length : Int) ≤ pb) = false := by simpa using hb
     have HG : Hid _ := HS.out (fun h => hb h.2)
     clear HS
     go_wp2_with fail
     go_roundw
     case rel => exact ⟨k + 1, by go_num, by omega, trivial, HG⟩
     case measure => simp [intOf]; omega
   ·have tb : (po == 11) = false := by rw [beq_eq_false_iff_ne]; exact h11
    have HG : Hid _ := HS.out (fun h => h11 h.1)
    clear HS
    go_wp2_with fail
    go_roundw
    case rel => exact ⟨k + 1, by go_num, by omega, trivial, HG⟩
    case measure => simp [intOf]; omega
  ·exfalso
   have := hasI_all (l := l) (n := fs.length) (fun j hj => HA.out j hj (by omega))
   rw [H2.out] at this
   cases this
end Go.Proofs.Ytdgmoiflahoihaa
