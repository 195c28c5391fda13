import Derived.Test.YtdgmoiflahoihaaEXT4
import Derived.Test.YtdgmoiflahoihaaEXR2

namespace Go.Proofs.Ytdgmoiflahoihaa
open Go.RowKit
set_option linter.unusedSimpArgs false
set_option linter.unusedVariables false
theorem nat_of {z : Int} {n : Nat} (h : bel z n = true) : ∃ k : Nat, z = k ∧ k < n := by
 unfold bel at h
 simp at h
 exact ⟨z.toNat, by omega, by omega⟩
theorem turn_any : TurnSays := by
 intro n x g s w fs af gf of capf hD hn hR hO hpc hfl hF
 obtain ⟨hfit, h0, hin⟩ := hD
 obtain ⟨o, a, b, c⟩ := x
 simp only at h0 hin
 unfold fitsI at hfit
 simp only [if_neg h0] at hfit
 by_cases h1 : o = 1
 ·subst h1
  simp at hfit
  obtain ⟨ka, rfl, hka⟩ := nat_of (n := 100) hfit.1
  exact t_set g s w hR hO hpc fs af gf of capf ka b c hka
 rw [if_neg h1] at hfit
 by_cases h2 : o = 2 ∨ o = 3
 ·rw [if_pos h2] at hfit
  simp only [Bool.and_eq_true] at hfit
  obtain ⟨ka, rfl, hka⟩ := nat_of (n := 100) hfit.1.1
  obtain ⟨kb, rfl, hkb⟩ := nat_of (n := 100) hfit.1.2
  rcases h2 with rfl | rfl
  ·exact t_copy g s w hR hO hpc fs af gf of capf ka kb c hka hkb
  ·exact t_neg g s w hR hO hpc fs af gf of capf ka kb c hka hkb
 rw [if_neg h2] at hfit
 by_cases h4 : 4 ≤ o ∧ o ≤ 10
 ·rw [if_pos h4] at hfit
  simp only [Bool.and_eq_true] at hfit
  obtain ⟨ka, rfl, hka⟩ := nat_of (n := 100) hfit.1.1
  obtain ⟨kb, rfl, hkb⟩ := nat_of (n := 100) hfit.1.2
  obtain ⟨kc, rfl, hkc⟩ := nat_of (n := 100) hfit.2
  obtain ⟨k, rfl⟩ : ∃ k : Nat, o = (k : Int) + 4 := ⟨(o - 4).toNat, by omega⟩
  exact t_op g s w hR hO hpc fs af gf of capf k ka kb kc (by omega) hka hkb hkc
 rw [if_neg h4] at hfit
 by_cases h5 : o = 11
 ·subst h5
  simp only [if_true, Bool.and_eq_true] at hfit
  obtain ⟨ka, rfl, hka⟩ := nat_of (n := 100) hfit.1.1
  obtain ⟨kb, rfl, hkb⟩ := nat_of (n := 26) hfit.1.2
  have := hin rfl
  exact t_in g s w hR hO hpc fs af gf of capf ka kb c hka (by omega) hfl hF
 rw [if_neg h5] at hfit
 by_cases h6 : o = 12
 ·subst h6
  simp only [if_true, Bool.and_eq_true] at hfit
  obtain ⟨ka, rfl, hka⟩ := nat_of (n := n) hfit.1.1
  exact t_jump g s w hR hO hpc fs af gf of capf ka b c
 rw [if_neg h6] at hfit
 by_cases h7 : o = 13
 ·subst h7
  simp only [if_true, Bool.and_eq_true] at hfit
  obtain ⟨ka, rfl, hka⟩ := nat_of (n := 100) hfit.1.1
  obtain ⟨kb, rfl, hkb⟩ := nat_of (n := n) hfit.1.2
  obtain ⟨kc, rfl, hkc⟩ := nat_of (n := n) hfit.2
  exact t_when g s w hR hO hpc fs af gf of capf ka kb kc hka
 rw [if_neg h7] at hfit
 by_cases h8 : o = 14 ∨ o = 15
 ·exact t_note g s w hR hO hpc fs af gf of capf o a b c h8
 ·rw [if_neg h8] at hfit
  cases hfit
theorem refExec_any (l : List Ic) (fs : List Int) (ao af : Option Addr) (g o cap gf of capf : Nat) (w : World) (hc : InsCells w ao g o l) (hf : NumCells w af gf of fs) (hfl : fs.length ≤ 9223372036854775807) (hlo : ∀ x ∈ l, -9223372036854775808 ≤ x.b ∧ x.b ≤ 9223372036854775807) (hfo : FsOk fs) :
  Calls Try.prog 38 #[.slice ao l.length cap, .slice af fs.length capf] w (ExecPost w (execI l fs)) := by
 by_cases h : (validI l).1 = 0
 ·cases h2 : hasI l fs.length with
  | false => exact refExec_input l fs ao af g o cap gf of capf w hc hf hfl h h2
  | true => exact refExec_run turn_any l fs ao af g o cap gf of capf w hc hf hfl hlo hfo h h2
 ·exact refExec_bad l fs ao af g o cap gf of capf w hc hf hfl h
end Go.Proofs.Ytdgmoiflahoihaa
