import Derived.Test.YtdgmoiflahoihaaGreatRAV4

namespace Go.Proofs.YtdgmoiflahoihaaGreat
open Go.RowKit
set_option linter.unusedSimpArgs false
set_option linter.unusedVariables false

theorem name_ok {names : List Vl} (hno : ∀ v ∈ names, VlOk v) (n : Nat) : VlOk (names.getD n vl0) := by
  rw [List.getD_eq_getElem?_getD]
  cases e : names[n]? with
  | none => exact ⟨by simp [vl0], by simp [vl0], by simp [vl0]⟩
  | some v => exact hno v (List.mem_of_getElem? e)

/-- The document's value of an expression. -/
theorem value_any (b gw : Nat) (C : List UInt8) (A : List Int) (names : List Vl) (hno : ∀ v ∈ names, VlOk v) : ∀ (f lo hi : Nat) (v : Vl), valueF C names f lo hi = some v → hi ≤ C.length → VlOk v ∧ ValGives b gw C A names lo hi v
  | 0, lo, hi, v, h, _ => by cases h
  | f + 1, lo, hi, v, h, hh => by
    have ih := value_any b gw C A names hno f
    unfold valueF at h
    by_cases hl : hi ≤ lo
    · rw [if_pos hl] at h
      cases h
    rw [if_neg hl] at h
    by_cases hs : 0 ≤ splitC C lo hi
    · rw [if_pos hs] at h
      obtain ⟨k0, k1⟩ := split_range hs (by omega) hh
      have hk : splitC C lo hi = ((splitC C lo hi).toNat : Int) := by omega
      generalize (splitC C lo hi).toNat = k at *
      cases hx : valueF C names f lo k with
      | none => rw [hx] at h; simp at h
      | some x =>
        cases hy : valueF C names f (k + 1) hi with
        | none => rw [hx, hy] at h; simp at h
        | some y =>
          cases hc : C[k]? with
          | none => rw [hx, hy, hc] at h; simp at h
          | some c =>
            rw [hx, hy, hc] at h
            simp only [Option.some.injEq] at h
            subst h
            obtain ⟨ox, gx⟩ := ih lo k x hx (by omega)
            obtain ⟨oy, gy⟩ := ih (k + 1) hi y hy hh
            exact ⟨opC_ok c ox oy, v_split (by omega) hh hk k0 k1 hc gx gy ox oy⟩
    · rw [if_neg hs] at h
      have hs1 : splitC C lo hi = -1 := by
        have k := spRun_range (seg C lo hi) lo sp0
        unfold splitC at hs ⊢
        rcases k with k | k
        · rw [k]; rfl
        · omega
      cases hc : C[lo]? with
      | none => rw [hc] at h; simp at h
      | some c =>
        rw [hc] at h
        simp only at h
        by_cases h45 : c = 45
        · subst h45
          simp only [show ((45 : UInt8) == 45) = true by decide, if_true] at h
          cases hx : valueF C names f (lo + 1) hi with
          | none => rw [hx] at h; simp at h
          | some x =>
            rw [hx] at h
            simp only [Option.some.injEq] at h
            subst h
            obtain ⟨ox, gx⟩ := ih (lo + 1) hi x hx hh
            exact ⟨opC_ok 45 ⟨by simp, by simp, by simp⟩ ox, v_neg (by omega) hh hs1 hc gx ox⟩
        rw [if_neg (by simpa using h45)] at h
        by_cases h40 : c = 40
        · subst h40
          simp only [show ((40 : UInt8) == 40) = true by decide, if_true] at h
          obtain ⟨ox, gx⟩ := ih (lo + 1) (hi - 1) v h (by omega)
          exact ⟨ox, v_paren (by omega) hh hs1 hc gx⟩
        rw [if_neg (by simpa using h40)] at h
        by_cases hn : nmB c = true
        · rw [if_pos hn] at h
          simp only [Option.some.injEq] at h
          subst h
          exact ⟨name_ok hno _, v_name (by omega) hh hs1 hc hn⟩
        rw [if_neg hn] at h
        by_cases hz : ((seg C lo hi).all dgB && decide (hi ≤ lo + 18)) = true
        · rw [if_pos hz] at h
          simp only [Option.some.injEq] at h
          subst h
          simp only [Bool.and_eq_true, decide_eq_true_eq] at hz
          have hd := List.all_eq_true.mp hz.1
          obtain ⟨r0, r1⟩ := numC_range (seg C lo hi) 0 0 hd (by omega) (by decide)
          have hlen : (seg C lo hi).length ≤ 18 := by rw [seg_length hh]; omega
          have hp : (10 : Int) ^ (0 + (seg C lo hi).length) ≤ 10 ^ 18 := by
            rw [Nat.zero_add]
            have := Nat.pow_le_pow_right (show 0 < 10 by decide) hlen
            exact_mod_cast this
          have e18 : (10 : Int) ^ 18 = 1000000000000000000 := by decide
          exact ⟨⟨⟨by simp only; omega, by simp only; omega⟩, by simp, by simp⟩, v_number (by omega) hh hs1 hd hz.2⟩
        · rw [if_neg hz] at h
          cases h

end Go.Proofs.YtdgmoiflahoihaaGreat
