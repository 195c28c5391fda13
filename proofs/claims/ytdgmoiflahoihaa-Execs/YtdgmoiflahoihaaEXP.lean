import Derived.Test.YtdgmoiflahoihaaELNm
import Derived.Test.YtdgmoiflahoihaaEB
import Derived.Test.YtdgmoiflahoihaaEVA

namespace Go.Proofs.Ytdgmoiflahoihaa
open Go.RowKit
set_option linter.unusedSimpArgs false
set_option linter.unusedVariables false
structure XS where
 regs : List Vl
 notes : List Nt
 pc : Nat
def XS.give (s : XS) (a : Int) (v : Vl) : XS := ⟨s.regs.set a.toNat v, s.notes, s.pc + 1⟩
def XS.reg (s : XS) (a : Int) : Vl := s.regs.getD a.toNat vl0
def stepX (x : Ic) (fs : List Int) (s : XS) : XS :=
 if x.op = 1 then s.give x.a ⟨x.b, 0⟩
 else if x.op = 2 then s.give x.a (s.reg x.b)
 else if x.op = 3 then s.give x.a (negV (s.reg x.b))
 else if x.op = 11 then s.give x.a ⟨fs.getD x.b.toNat 0, 0⟩
 else if x.op = 12 then { s with pc := x.a.toNat }
 else if x.op = 13 then { s with pc := if (s.reg x.a).fault ≠ 0 then x.c.toNat else if (s.reg x.a).num = 0 then x.b.toNat else s.pc + 1 }
 else if x.op = 14 then { s with notes := s.notes ++ [⟨0, x.a.toNat, x.b.toNat, s.reg x.c⟩], pc := s.pc + 1 }
 else if x.op = 15 then { s with notes := s.notes ++ [⟨1, x.a.toNat, x.b.toNat, s.reg x.c⟩], pc := s.pc + 1 }
 else s.give x.a (opV x.op (s.reg x.b) (s.reg x.c))
def execF (l : List Ic) (fs : List Int) : Nat → XS → Option (List Nt)
 | 0, _ => none
 | f + 1, s => if (l.getD s.pc ⟨0, 0, 0, 0⟩).op = 0 then some s.notes else execF l fs f (stepX (l.getD s.pc ⟨0, 0, 0, 0⟩) fs s)
def regs0 : List Vl := List.replicate 100 vl0
def x0 : XS := ⟨regs0, [], 0⟩
def hasI (l : List Ic) (n : Nat) : Bool := l.all fun x => !(x.op == 11 && decide ((n : Int) ≤ x.b))
def execI (l : List Ic) (fs : List Int) : Int × List Nt :=
 if (validI l).1 ≠ 0 then ((validI l).1, [])
 else if hasI l fs.length then (match execF l fs 50000 x0 with | none => (8, []) | some n => (0, n))
 else (6, [])
theorem vloop_all {n : Nat} : ∀ (l : List Ic) (k : Nat), (vloop n l k).1 = 0 → ∀ i (h : i < l.length), fitsI l[i] n = true ∧ (i + 1 = l.length → endsI l[i] = true)
 | [], _, _, i, h => absurd h (by simp)
 | x :: r, k, hv, i, h => by
  unfold vloop at hv
  split at hv
  ·rename_i hc
   simp only [Bool.and_eq_true, Bool.or_eq_true] at hc
   cases i with
   | zero =>
    refine ⟨by simpa using hc.1, fun he => ?_⟩
    have hr : r = [] := by simpa using he
    subst hr
    simpa using hc.2
   | succ i =>
    have := vloop_all r (k + 1) hv i (by simpa using h)
    simpa using this
  ·simp at hv
theorem valid_all {l : List Ic} (h : (validI l).1 = 0) : 0 < l.length ∧ l.length ≤ 2000 ∧ ∀ i (hi : i < l.length), fitsI l[i] l.length = true ∧ (i + 1 = l.length → endsI l[i] = true) := by
 unfold validI at h
 split at h
 ·simp at h
 split at h
 ·simp at h
 ·exact ⟨by omega, by omega, vloop_all l 0 h⟩
structure XOk (s : XS) : Prop where
 len : s.regs.length = 100
 ok : ∀ v ∈ s.regs, VlOk v
theorem XOk.reg {s : XS} (h : XOk s) (a : Int) : VlOk (s.reg a) := by
 unfold XS.reg
 rw [List.getD_eq_getElem?_getD]
 cases e : s.regs[a.toNat]? with
 | none => exact ⟨by simp [vl0], by simp [vl0], by simp [vl0]⟩
 | some v => exact h.ok v (List.mem_of_getElem? e)
theorem XOk.give {s : XS} (h : XOk s) (a : Int) {v : Vl} (hv : VlOk v) : XOk (s.give a v) := by
 refine ⟨by simp [XS.give, h.len], fun x hx => ?_⟩
 rcases List.mem_or_eq_of_mem_set hx with h' | h'
 ·exact h.ok x h'
 ·rw [h']; exact hv
theorem x0_ok : XOk x0 := by
 refine ⟨by simp [x0, regs0], fun v hv => ?_⟩
 have := List.eq_of_mem_replicate hv
 rw [this]
 exact ⟨by simp [vl0], by simp [vl0], by simp [vl0]⟩
theorem stepX_ok {s : XS} (h : XOk s) {x : Ic} (hx : -9223372036854775808 ≤ x.b ∧ x.b ≤ 9223372036854775807) {fs : List Int} (hf : FsOk fs) : XOk (stepX x fs s) := by
 have hg : -9223372036854775808 ≤ fs.getD x.b.toNat 0 ∧ fs.getD x.b.toNat 0 ≤ 9223372036854775807 := by
  rw [List.getD_eq_getElem?_getD]
  cases e : fs[x.b.toNat]? with
  | none => simp
  | some v => exact hf v (List.mem_of_getElem? e)
 unfold stepX
 split
 ·exact h.give _ ⟨hx, by simp, by simp⟩
 split
 ·exact h.give _ (h.reg _)
 split
 ·exact h.give _ (negV_ok (h.reg _))
 split
 ·exact h.give _ ⟨hg, by simp, by simp⟩
 split
 ·exact ⟨h.len, h.ok⟩
 split
 ·exact ⟨h.len, h.ok⟩
 split
 ·exact ⟨h.len, h.ok⟩
 split
 ·exact ⟨h.len, h.ok⟩
 ·exact h.give _ (opV_ok _ (h.reg _) (h.reg _))
theorem stepX_notes (x : Ic) (fs : List Int) (s : XS) : (stepX x fs s).notes.length ≤ s.notes.length + 1 := by
 unfold stepX XS.give
 repeat' split
 all_goals simp
theorem stepX_pc {l : List Ic} (hv : (validI l).1 = 0) {s : XS} (hp : s.pc < l.length) (h0 : l[s.pc].op ≠ 0) (fs : List Int) : (stepX l[s.pc] fs s).pc < l.length := by
 obtain ⟨_, _, hall⟩ := valid_all hv
 obtain ⟨hf, he⟩ := hall s.pc hp
 generalize l[s.pc] = x at *
 have nx : x.op ≠ 12 → s.pc + 1 < l.length := fun h => by
  rcases Nat.lt_or_ge (s.pc + 1) l.length with h' | h'
  ·exact h'
  ·have := he (by omega)
   unfold endsI at this
   simp at this
   omega
 unfold fitsI at hf
 unfold stepX XS.give
 split
 ·exact nx (by omega)
 split
 ·exact nx (by omega)
 split
 ·exact nx (by omega)
 split
 ·exact nx (by omega)
 split
 ·rename_i h
  simp [h, bel] at hf
  show x.a.toNat < l.length
  omega
 split
 ·rename_i h
  simp [h, bel] at hf
  have := nx (by omega)
  obtain ⟨⟨_, b0, b1⟩, c0, c1⟩ := hf
  show (if _ then x.c.toNat else if _ then x.b.toNat else s.pc + 1) < l.length
  split
  ·exact (Int.toNat_lt c0).mpr c1
  split
  ·exact (Int.toNat_lt b0).mpr b1
  ·exact this
 split
 ·exact nx (by omega)
 split
 ·exact nx (by omega)
 ·exact nx (by omega)
end Go.Proofs.Ytdgmoiflahoihaa
