import Derived.Test.YtdgmoiflahoihaaGreatDoorLNmw
import Derived.Test.YtdgmoiflahoihaaGreatDoorRValw
import Derived.Test.YtdgmoiflahoihaaGreatDoorVAw

namespace Go.Proofs.YtdgmoiflahoihaaGreatDoor
open Go.RowKit
set_option linter.unusedSimpArgs false
set_option linter.unusedVariables false
structure XS where
 regs : List Vl
 notes : List Nt
 pc : Nat
def XS.give (s : XS) (a : Int) (v : Vl) : XS := ⟨s.regs.set a.toNat v, s.notes, s.pc + 1⟩
def XS.reg (s : XS) (a : Int) : Vl := s.regs.getD a.toNat vl0
def stepX (x : Ic) (fs : List Int) (s : XS) : XS :=
 if x.op = 1 then s.give x.a ⟨x.b, 0⟩
 else if x.op = 2 then s.give x.a (s.reg x.b)
 else if x.op = 3 then s.give x.a (negV (s.reg x.b))
 else if x.op = 11 then s.give x.a ⟨fs.getD x.b.toNat 0, 0⟩
 else if x.op = 12 then { s with pc := x.a.toNat }
 else if x.op = 13 then { s with pc := if (s.reg x.a).fault ≠ 0 then x.c.toNat else if (s.reg x.a).num = 0 then x.b.toNat else s.pc + 1 }
 else if x.op = 14 then { s with notes := s.notes ++ [⟨0, x.a.toNat, x.b.toNat, s.reg x.c⟩], pc := s.pc + 1 }
 else if x.op = 15 then { s with notes := s.notes ++ [⟨1, x.a.toNat, x.b.toNat, s.reg x.c⟩], pc := s.pc + 1 }
 else s.give x.a (opV x.op (s.reg x.b) (s.reg x.c))
def execF (l : List Ic) (fs : List Int) : Nat → XS → Option (List Nt)
 | 0, _ => none
 | f + 1, s => if (l.getD s.pc ⟨0, 0, 0, 0⟩).op = 0 then some s.notes else execF l fs f (stepX (l.getD s.pc ⟨0, 0, 0, 0⟩) fs s)
def regs0 : List Vl := List.replicate 100 vl0
def x0 : XS := ⟨regs0, [], 0⟩
def hasI (l : List Ic) (n : Nat) : Bool := l.all fun x => !(x.op == 11 && decide ((n : Int) ≤ x.b))
def execI (l : List Ic) (fs : List Int) : Int × List Nt :=
 if (validI l).1 ≠ 0 then ((validI l).1, [])
 else if hasI l fs.length then (match execF l fs 50000 x0 with | none => (8, []) | some n => (0, n))
 else (6, [])
theorem vloop_all {n : Nat} : ∀ (l : List Ic) (k : Nat), (vloop n l k).1 = 0 → ∀ i (h : i < l.length), fitsI l[i] n = true ∧ (i + 1 = l.length → endsI l[i] = true)
 | [], _, _, i, h => absurd h (by simp)
 | x :: r, k, hv, i, h => by
  unfold vloop at hv
  split at hv
  ·rename_i hc
   simp only [Bool.and_eq_true, Bool.or_eq_true] at hc
   cases i with
   | zero =>
    refine ⟨by simpa using hc.1, fun he => ?_⟩
    have hr : r = [] := by simpa using he
    subst hr
    simpa using hc.2
   | succ i =>
    have := vloop_all r (k + 1) hv i (by simpa using h)
    simpa using this
  ·simp at hv
theorem valid_all {l : List Ic} (h : (validI l).1 = 0) : 0 < l.length ∧ l.length ≤ 2000 ∧ ∀ i (hi : i < l.length), fitsI l[i] l.length = true ∧ (i + 1 = l.length → endsI l[i] = true) := by
 unfold validI at h
 split at h
 ·simp at h
 split at h
 ·simp at h
 ·exact ⟨by omega, by omega, vloop_all l 0 h⟩
structure XOk (s : XS) : Prop where
 len : s.regs.length = 100
 ok : ∀ v ∈ s.regs, VlOk v
theorem XOk.reg {s : XS} (h : XOk s) (a : Int) : VlOk (s.reg a) := by
 unfold XS.reg
 rw [List.getD_eq_getElem?_getD]
 cases e : s.regs[a.toNat]? with
 | none => exact ⟨by simp [vl0], by simp [vl0], by simp [vl0]⟩
 | some v => exact h.ok v (List.mem_of_getElem? e)
theorem XOk.give {s : XS} (h : XOk s) (a : Int) {v : Vl} (hv : VlOk v) : XOk (s.give a v) := by
 refine ⟨by simp [XS.give, h.len], fun x hx => ?_⟩
 rcases List.mem_or_eq_of_mem_set hx with h' | h'
 ·exact h.ok x h'
 ·rw [h']; exact hv
theorem x0_ok : XOk x0 := by
 refine ⟨by simp [x0, regs0], fun v hv => ?_⟩
 have := List.eq_of_mem_replicate hv
 rw [this]
 exact ⟨by simp [vl0], by simp [vl0], by simp [vl0]⟩
theorem stepX_ok {s : XS} (h : XOk s) {x : Ic} (hx : -9223372036854775808 ≤ x.b ∧ x.b ≤ 9223372036854775807) {fs : List Int} (hf : FsOk fs) : XOk (stepX x fs s) := by
 have hg : -9223372036854775808 ≤ fs.getD x.b.toNat 0 ∧ fs.getD x.b.toNat 0 ≤ 9223372036854775807 := by
  rw [List.getD_eq_getElem?_getD]
  cases e : fs[x.b.toNat]? with
  | none => simp
  | some v => exact hf v (List.mem_of_getElem? e)
 unfold stepX
 split
 ·exact h.give _ ⟨hx, by simp, by simp⟩
 split
 ·exact h.give _ (h.reg _)
 split
 ·exact h.give _ (negV_ok (h.reg _))
 split
 ·exact h.give _ ⟨hg, by simp, by simp⟩
 split
 ·exact ⟨h.len, h.ok⟩
 split
 ·exact ⟨h.len, h.ok⟩
 split
 ·exact ⟨h.len, h.ok⟩
 split
 ·exact ⟨h.len, h.ok⟩
 ·exact h.give _ (opV_ok _ (h.reg _) (h.reg _))
theorem stepX_notes (x : Ic) (fs : List Int) (s : XS) : (stepX x fs s).notes.length ≤ s.notes.length + 1 := by
 unfold stepX XS.give
 repeat' split
 all_goals simp
theorem stepX_pc {l : List Ic} (hv : (validI l).1 = 0) {s : XS} (hp : s.pc < l.length) (h0 : l[s.pc].op ≠ 0) (fs : List Int) : (stepX l[s.pc] fs s).pc < l.length := by
 obtain ⟨_, _, hall⟩ := valid_all hv
 obtain ⟨hf, he⟩ := hall s.pc hp
 generalize l[s.pc] = x at *
 have nx : x.op ≠ 12 → s.pc + 1 < l.length := fun h => by
  rcases Nat.lt_or_ge (s.pc + 1) l.length with h' | h'
  ·exact h'
  ·have := he (by omega)
   unfold endsI at this
   simp at this
   omega
 unfold fitsI at hf
 unfold stepX XS.give
 split
 ·exact nx (by omega)
 split
 ·exact nx (by omega)
 split
 ·exact nx (by omega)
 split
 ·exact nx (by omega)
 split
 ·rename_i h
  simp [h, bel] at hf
  show x.a.toNat < l.length
  omega
 split
 ·rename_i h
  simp [h, bel] at hf
  have := nx (by omega)
  obtain ⟨⟨_, b0, b1⟩, c0, c1⟩ := hf
  show (if _ then x.c.toNat else if _ then x.b.toNat else s.pc + 1) < l.length
  split
  ·exact (Int.toNat_lt c0).mpr c1
  split
  ·exact (Int.toNat_lt b0).mpr b1
  ·exact this
 split
 ·exact nx (by omega)
 split
 ·exact nx (by omega)
 ·exact nx (by omega)
end Go.Proofs.YtdgmoiflahoihaaGreatDoor
namespace Go.Proofs.YtdgmoiflahoihaaGreatDoor
open Go.RowKit
set_option linter.unusedSimpArgs false
set_option linter.unusedVariables false
theorem reg_nat (s : XS) (a : Nat) : s.reg (a : Int) = s.regs.getD a vl0 := rfl
theorem give_nat (s : XS) (a : Nat) (v : Vl) : s.give (a : Int) v = ⟨s.regs.set a v, s.notes, s.pc + 1⟩ := rfl
def ExecPost (w : World) (r : Int × List Nt) (x : Ending) (w' : World) : Prop :=
 (∃ vn, x = .returned (.tuple #[vn, .int .i64 r.1]) ∧ (r.1 ≠ 0 → vn = .slice none 0 0) ∧ w'.ownsRow w.heap.size 61 5 vn r.2.length (ntCells r.2)) ∧ Below w.heap.size w w'
structure DoOk (n nf : Nat) (x : Ic) : Prop where
 fit : fitsI x n = true
 op : x.op ≠ 0
 inp : x.op = 11 → x.b.toNat < nf
theorem hasI_bad {l : List Ic} {n k : Nat} (hk : k < l.length) (h1 : l[k].op = 11) (h2 : (n : Int) ≤ l[k].b) : hasI l n = false := by
 unfold hasI
 rw [List.all_eq_false]
 exact ⟨l[k], List.getElem_mem hk, by simp [h1, h2]⟩
theorem hasI_all {l : List Ic} {n : Nat} (h : ∀ k, ∀ hk : k < l.length, ¬ (l[k].op = 11 ∧ (n : Int) ≤ l[k].b)) : hasI l n = true := by
 unfold hasI
 rw [List.all_eq_true]
 intro x hx
 obtain ⟨k, hk, rfl⟩ := List.getElem_of_mem hx
 have := h k hk
 simp
 by_cases h1 : l[k].op = 11
 ·right
  by_cases h2 : (n : Int) ≤ l[k].b
  ·exact absurd ⟨h1, h2⟩ this
  ·omega
 ·exact .inl h1
theorem hasI_at {l : List Ic} {n : Nat} (h : hasI l n = true) {k : Nat} (hk : k < l.length) (h1 : l[k].op = 11) : l[k].b < n := by
 unfold hasI at h
 rw [List.all_eq_true] at h
 have := h l[k] (List.getElem_mem hk)
 simp [h1] at this
 omega
theorem execF_end {l : List Ic} {fs : List Int} {f : Nat} {s : XS} (hf : 0 < f) (hp : s.pc < l.length) (h : l[s.pc].op = 0) : execF l fs f s = some s.notes := by
 obtain ⟨m, rfl⟩ : ∃ m, f = m + 1 := ⟨f - 1, by omega⟩
 unfold execF
 have e : l.getD s.pc ⟨0, 0, 0, 0⟩ = l[s.pc] := by rw [List.getD_eq_getElem?_getD, List.getElem?_eq_getElem hp]; rfl
 rw [e, if_pos h]
theorem execF_step {l : List Ic} {fs : List Int} {f : Nat} {s : XS} (hf : 0 < f) (hp : s.pc < l.length) (h : l[s.pc].op ≠ 0) : execF l fs f s = execF l fs (f - 1) (stepX l[s.pc] fs s) := by
 obtain ⟨m, rfl⟩ : ∃ m, f = m + 1 := ⟨f - 1, by omega⟩
 have e : l.getD s.pc ⟨0, 0, 0, 0⟩ = l[s.pc] := by rw [List.getD_eq_getElem?_getD, List.getElem?_eq_getElem hp]; rfl
 rw [execF, e, if_neg h]
 rfl
theorem own_base2 {w : World} {base base' size n : Nat} {e : TypeId} {v : Value} {xs : List Value} (h : w.ownsRow base e size v n xs) (hb : base' ≤ base) : w.ownsRow base' e size v n xs := by
 refine ⟨h.1, ?_⟩
 rcases h.2 with h0 | ⟨g, cap, cur, h1, h2, h3⟩
 ·exact .inl h0
 ·exact .inr ⟨g, cap, cur, h1, by omega, h3⟩
end Go.Proofs.YtdgmoiflahoihaaGreatDoor
