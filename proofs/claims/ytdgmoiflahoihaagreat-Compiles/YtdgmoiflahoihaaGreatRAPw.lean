import Derived.Test.YtdgmoiflahoihaaGreatRAFw
import Derived.Test.YtdgmoiflahoihaaGreatRValw

namespace Go.Proofs.YtdgmoiflahoihaaGreat
open Go.RowKit
set_option linter.unusedSimpArgs false
set_option linter.unusedVariables false
theorem play_end {C : List UInt8} {A : List Int} {f lo hi : Nat} {s s' : SR} (h : playF C A f lo hi s = some s') (hl : ¬ lo < hi) : s' = s := by
 cases f with
 | zero => cases h
 | succ f =>
  rw [playF_out C A f lo hi s hl] at h
  cases h
  rfl
theorem play_step {C : List UInt8} {A : List Int} {f lo hi : Nat} {s s' : SR} (h : playF C A f lo hi s = some s') (hl : lo < hi) :
  ∃ g o e t s1, ∃ (h0 : lo < C.length) (h1 : lo < A.length), f = g + 1 ∧ overC C lo = some o ∧ restC C lo = some e ∧ blocksC C lo = some t ∧ playF C A g o hi s1 = some s' ∧
   ((C[lo] = 42 ∧ ∃ h2 : lo + 1 < C.length, 48 ≤ C[lo + 1].toNat ∧ repO (fun s => playF C A g t.p t.q s) (C[lo + 1].toNat - 48) s = some s1) ∨
    (C[lo] ≠ 42 ∧ ∃ v, valueF C s.1 (C.length + 1) e.lo e.hi = some v ∧ e.hi ≤ C.length ∧ e.name < 26 ∧ 0 ≤ A[lo] ∧ ruleO (fun s => playF C A g t.p t.q s) (fun s => playF C A g t.r t.s s) C[lo] A[lo] e v s = some s1)) := by
 cases f with
 | zero => cases h
 | succ f =>
  unfold playF at h
  rw [if_pos hl] at h
  cases ho : overC C lo with
  | none => rw [ho] at h; simp at h
  | some o =>
  cases hs : stepO C A (playF C A f) lo s with
  | none => rw [ho, hs] at h; simp at h
  | some s1 =>
  rw [ho, hs] at h
  simp only at h
  unfold stepO at hs
  cases he : restC C lo with
  | none => rw [he] at hs; simp at hs
  | some e =>
  cases ht : blocksC C lo with
  | none => rw [he, ht] at hs; simp at hs
  | some t =>
  cases hc : C[lo]? with
  | none => rw [he, ht, hc] at hs; simp at hs
  | some c =>
  cases ha : A[lo]? with
  | none => rw [he, ht, hc, ha] at hs; simp at hs
  | some a =>
  rw [he, ht, hc, ha] at hs
  simp only at hs
  obtain ⟨h0, rfl⟩ := List.getElem?_eq_some_iff.mp hc
  obtain ⟨h1, rfl⟩ := List.getElem?_eq_some_iff.mp ha
  refine ⟨f, o, e, t, s1, h0, h1, rfl, rfl, rfl, rfl, h, ?_⟩
  by_cases h42 : C[lo] = 42
  ·rw [if_pos h42] at hs
   cases hd : C[lo + 1]? with
   | none => rw [hd] at hs; simp at hs
   | some d =>
    rw [hd] at hs
    simp only at hs
    obtain ⟨h2, rfl⟩ := List.getElem?_eq_some_iff.mp hd
    split at hs
    ·rename_i h48
     exact .inl ⟨h42, h2, h48, hs⟩
    ·cases hs
  ·rw [if_neg h42] at hs
   cases hv : valueF C s.1 (C.length + 1) e.lo e.hi with
   | none => rw [hv] at hs; simp at hs
   | some v =>
    rw [hv] at hs
    simp only at hs
    split at hs
    ·rename_i hg
     exact .inr ⟨h42, v, rfl, hg.1, hg.2.1, hg.2.2, hs⟩
    ·cases hs
def PlayOk (f : SR → Option SR) : Prop := ∀ s s', StOk s → f s = some s' → StOk s' ∧ s.2.length ≤ s'.2.length
theorem rep_ok {f : SR → Option SR} (hf : PlayOk f) : ∀ n, PlayOk (repO f n)
 | 0 => fun s s' hs h => by cases h; exact ⟨hs, Nat.le_refl _⟩
 | n + 1 => fun s s' hs h => by
  unfold repO at h
  cases h1 : f s with
  | none => rw [h1] at h; simp at h
  | some s1 =>
   rw [h1] at h
   simp only at h
   obtain ⟨a, b⟩ := hf s s1 hs h1
   obtain ⟨c, d⟩ := rep_ok hf n s1 s' a h
   exact ⟨c, by omega⟩
theorem give_ok {s : SR} (h : StOk s) (e : Rest) {v : Vl} (hv : VlOk v) (l : List Nt) : StOk (giveO e v s, l) := by
 unfold giveO
 split
 ·exact h.set hv _ _
 ·exact ⟨h.len, h.ok⟩
theorem rule_ok {p1 p2 : SR → Option SR} (h1 : PlayOk p1) (h2 : PlayOk p2) {c : UInt8} {a : Int} {e : Rest} {v : Vl} (hv : VlOk v) : PlayOk (ruleO p1 p2 c a e v) := by
 intro s s' hs h
 unfold ruleO at h
 split at h
 ·split at h
  ·cases h; exact ⟨give_ok hs e hv _, by simp⟩
  ·cases h
 split at h
 ·split at h
  ·cases h; exact ⟨give_ok hs e hv _, by simp⟩
  ·cases h
 split at h
 ·split at h
  ·split at h
   ·exact h1 (giveO e v s, s.2) s' (give_ok hs e hv s.2) h
   ·exact h2 (giveO e v s, s.2) s' (give_ok hs e hv s.2) h
  ·cases h; exact ⟨give_ok hs e hv s.2, Nat.le_refl _⟩
 ·cases h; exact ⟨give_ok hs e hv s.2, Nat.le_refl _⟩
theorem play_ok (C : List UInt8) (A : List Int) : ∀ (f lo hi : Nat), PlayOk (playF C A f lo hi)
 | 0, lo, hi => fun s s' hs h => by cases h
 | f + 1, lo, hi => fun s s' hs h => by
  by_cases hl : lo < hi
  ·obtain ⟨g, o, e, t, s1, h0, h1, hf, ho, he, ht, hp, hst⟩ := play_step h hl
   have hfg : f = g := by omega
   subst hfg
   have k1 := fun lo hi => play_ok C A f lo hi
   have k : StOk s1 ∧ s.2.length ≤ s1.2.length := by
    rcases hst with ⟨_, h2, _, hr⟩ | ⟨_, v, hv, hh, _, _, hr⟩
    ·exact rep_ok (k1 t.p t.q) _ s s1 hs hr
    ·have hvo := (value_any 0 0 C A s.1 hs.ok _ _ _ v hv hh).1
     exact rule_ok (k1 t.p t.q) (k1 t.r t.s) hvo s s1 hs hr
   have k2 := k1 o hi s1 s' k.1 hp
   exact ⟨k2.1, by omega⟩
  ·rw [play_end h hl]
   exact ⟨hs, Nat.le_refl _⟩
def PlayGives (b g : Nat) (w0 : World) (lo hi : Nat) (s s' : SR) : Prop :=
 ∀ (S : Nat → Prop) (w : World), Below w0.heap.size w0 w → StateAt w g S s → (∀ k, S k → g < k) →
  Calls Tryz.prog 19 #[.pointer (some ⟨b, 0, none⟩), .pointer (some ⟨g, 0, none⟩), .int .i64 lo, .int .i64 hi] w fun e w' => e = .returned (.tuple #[]) ∧ StepAt g S w w' s'
theorem StateAt.vals {w : World} {g : Nat} {S : Nat → Prop} {s : SR} (h : StateAt w g S s) : ValsAt w g s.1 := h.cell
theorem onto_low {g : Nat} {S : Nat → Prop} {w0 w w' : World} (h0 : Below w0.heap.size w0 w) (h : Onto g S w w') (hg : w0.heap.size ≤ g) (hS : ∀ k, S k → g < k) : Below w0.heap.size w0 w' := by
 have hs := h0.size
 exact ⟨h.os.trans h0.os, h.tape.trans h0.tape, h.output.trans h0.output, Nat.le_trans hs h.size, fun k hk => (h.block k (by omega) (by omega) (fun e => by have := hS k e; omega)).trans (h0.block k hk)⟩
end Go.Proofs.YtdgmoiflahoihaaGreat
