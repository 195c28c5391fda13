import Derived.Test.YtdgmoiflahoihabGreatDoorPLew

namespace Go.Proofs.YtdgmoiflahoihabGreatDoor
open Go.RowKit
set_option linter.unusedSimpArgs false
set_option linter.unusedVariables false
def LowEq (r : Nat) (of : List Nat) (u v : List Vl) : Prop := ∀ i, i < 26 → goesB (of.getD i 0) r = true → u.getD i vl0 = v.getD i vl0
def seenN (r : Nat) (l : List Nt) : List Nt := l.filter fun x => x.kind == 1 && goesB x.label r
def toldN (r : Nat) (l : List Nt) : List Nt := l.filter fun x => x.kind == 0 && goesB x.label r
def Parts2 (a b : List Nt) : Prop := ∃ p x y c d, a = p ++ x :: c ∧ b = p ++ y :: d ∧ x ≠ y
theorem Parts2.more {a b : List Nt} (h : Parts2 a b) (e f : List Nt) : Parts2 (a ++ e) (b ++ f) := by
 obtain ⟨p, x, y, c, d, rfl, rfl, hn⟩ := h
 exact ⟨p, x, y, c ++ e, d ++ f, by simp, by simp, hn⟩
theorem Parts2.ne {a b : List Nt} (h : Parts2 a b) : a ≠ b := by
 obtain ⟨p, x, y, c, d, rfl, rfl, hn⟩ := h
 intro e
 have := List.append_cancel_left e
 simp only [List.cons.injEq] at this
 exact hn this.1
def SiSame (r : Nat) (of : List Nat) (s t : SR) : Prop := seenN r t.2 = seenN r s.2 ∧ toldN r t.2 = toldN r s.2 ∧ LowEq r of t.1 s.1
theorem SiSame.refl (r : Nat) (of : List Nat) (s : SR) : SiSame r of s s := ⟨rfl, rfl, fun _ _ _ => rfl⟩
theorem SiSame.trans {r : Nat} {of : List Nat} {s t u : SR} (h : SiSame r of s t) (k : SiSame r of t u) : SiSame r of s u :=
 ⟨k.1.trans h.1, k.2.1.trans h.2.1, fun i hi hl => (k.2.2 i hi hl).trans (h.2.2 i hi hl)⟩
end Go.Proofs.YtdgmoiflahoihabGreatDoor
