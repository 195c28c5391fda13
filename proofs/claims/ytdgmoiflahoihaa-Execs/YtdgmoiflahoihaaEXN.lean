import Derived.Test.YtdgmoiflahoihaaEXP
import Derived.Test.YtdgmoiflahoihaaELNm

namespace Go.Proofs.Ytdgmoiflahoihaa
open Go.RowKit
set_option linter.unusedSimpArgs false
set_option linter.unusedVariables false
theorem reg_nat (s : XS) (a : Nat) : s.reg (a : Int) = s.regs.getD a vl0 := rfl
theorem give_nat (s : XS) (a : Nat) (v : Vl) : s.give (a : Int) v = ⟨s.regs.set a v, s.notes, s.pc + 1⟩ := rfl
def ExecPost (w : World) (r : Int × List Nt) (x : Ending) (w' : World) : Prop :=
 (∃ vn, x = .returned (.tuple #[vn, .int .i64 r.1]) ∧ (r.1 ≠ 0 → vn = .slice none 0 0) ∧ w'.ownsRow w.heap.size 88 5 vn r.2.length (ntCells r.2)) ∧ Below w.heap.size w w'
structure DoOk (n nf : Nat) (x : Ic) : Prop where
 fit : fitsI x n = true
 op : x.op ≠ 0
 inp : x.op = 11 → x.b.toNat < nf
theorem hasI_bad {l : List Ic} {n k : Nat} (hk : k < l.length) (h1 : l[k].op = 11) (h2 : (n : Int) ≤ l[k].b) : hasI l n = false := by
 unfold hasI
 rw [List.all_eq_false]
 exact ⟨l[k], List.getElem_mem hk, by simp [h1, h2]⟩
theorem hasI_all {l : List Ic} {n : Nat} (h : ∀ k, ∀ hk : k < l.length, ¬ (l[k].op = 11 ∧ (n : Int) ≤ l[k].b)) : hasI l n = true := by
 unfold hasI
 rw [List.all_eq_true]
 intro x hx
 obtain ⟨k, hk, rfl⟩ := List.getElem_of_mem hx
 have := h k hk
 simp
 by_cases h1 : l[k].op = 11
 ·right
  by_cases h2 : (n : Int) ≤ l[k].b
  ·exact absurd ⟨h1, h2⟩ this
  ·omega
 ·exact .inl h1
theorem hasI_at {l : List Ic} {n : Nat} (h : hasI l n = true) {k : Nat} (hk : k < l.length) (h1 : l[k].op = 11) : l[k].b < n := by
 unfold hasI at h
 rw [List.all_eq_true] at h
 have := h l[k] (List.getElem_mem hk)
 simp [h1] at this
 omega
theorem execF_end {l : List Ic} {fs : List Int} {f : Nat} {s : XS} (hf : 0 < f) (hp : s.pc < l.length) (h : l[s.pc].op = 0) : execF l fs f s = some s.notes := by
 obtain ⟨m, rfl⟩ : ∃ m, f = m + 1 := ⟨f - 1, by omega⟩
 unfold execF
 have e : l.getD s.pc ⟨0, 0, 0, 0⟩ = l[s.pc] := by rw [List.getD_eq_getElem?_getD, List.getElem?_eq_getElem hp]; rfl
 rw [e, if_pos h]
theorem execF_step {l : List Ic} {fs : List Int} {f : Nat} {s : XS} (hf : 0 < f) (hp : s.pc < l.length) (h : l[s.pc].op ≠ 0) : execF l fs f s = execF l fs (f - 1) (stepX l[s.pc] fs s) := by
 obtain ⟨m, rfl⟩ : ∃ m, f = m + 1 := ⟨f - 1, by omega⟩
 have e : l.getD s.pc ⟨0, 0, 0, 0⟩ = l[s.pc] := by rw [List.getD_eq_getElem?_getD, List.getElem?_eq_getElem hp]; rfl
 rw [execF, e, if_neg h]
 rfl
theorem own_base2 {w : World} {base base' size n : Nat} {e : TypeId} {v : Value} {xs : List Value} (h : w.ownsRow base e size v n xs) (hb : base' ≤ base) : w.ownsRow base' e size v n xs := by
 refine ⟨h.1, ?_⟩
 rcases h.2 with h0 | ⟨g, cap, cur, h1, h2, h3⟩
 ·exact .inl h0
 ·exact .inr ⟨g, cap, cur, h1, by omega, h3⟩
end Go.Proofs.Ytdgmoiflahoihaa
