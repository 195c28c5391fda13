import Derived.Test.YtdgmoiflahoihaaGreatCRead
import Derived.Test.YtdgmoiflahoihaaGreatPlain

namespace Go.Proofs.YtdgmoiflahoihaaGreat
open Go.RowKit
set_option linter.unusedSimpArgs false
set_option linter.unusedVariables false

theorem and_pow (m n e : Nat) (hm : m < 2 ^ e) (hn : n ≤ 26) (he : e ≤ 26) : bits .and .i64 (m : Int) (wrap64 (2 ^ n)) = ((m &&& 2 ^ n : Nat) : Int) := by
  have h1 : 2 ^ n ≤ 2 ^ 26 := Nat.pow_le_pow_right (by omega) hn
  have h2 : 2 ^ e ≤ 2 ^ 26 := Nat.pow_le_pow_right (by omega) he
  have h4 : ((2 ^ n : Nat) : Int) = (2 : Int) ^ n := by simp
  have h3 : wrap64 (2 ^ n) = ((2 ^ n : Nat) : Int) := by
    rw [← IntWalk.i64_left, ← h4]
    generalize 2 ^ n = q at h1
    exact IntWalk.i64_in _ ⟨by omega, by omega⟩
  rw [h3]
  exact i64_and_nat m (2 ^ n) (by omega) (by omega)

theorem ret_bool {a b : Bool} (h : a = b) : Ending.returned (.bool a) = .returned (.bool b) := by rw [h]

set_option maxHeartbeats 400000 in
theorem goes_any (a b : Nat) (w : World) (ha : a < 16) (hb : b < 16) :
    Calls Tryz.prog 49 #[.int .i64 a, .int .i64 b] w fun e w' => e = .returned (.bool (goesB a b)) ∧ w' = w := by
  have ho := i64_or_nat a b (by omega) (by omega)
  go_enter Tryz.func49, Tryz.ntmps49
  go_wp2
  go_ret
  exact ⟨ret_bool (by rw [Bool.eq_iff_iff]; simp [goesB]; omega), rfl⟩

def natV (n : Nat) : Value := .int .i64 n
def arrV (of : List Nat) : Array Value := (of.map natV).toArray

set_option maxHeartbeats 400000 in
theorem together_any (of : List Nat) (names : Nat) (w : World) (hof : of.length = 26) (h16 : ∀ x ∈ of, x < 16) (hn : names < 2 ^ 26) :
    Calls Tryz.prog 48 #[.agg (arrV of), .int .i64 names] w fun e w' => e = .returned (.int .i64 (togC of names)) ∧ w' = w.alloc (.cells (arrV of) 60) := by
  have hsz : (arrV of).size = 26 := by simp [arrV, hof]
  go_enter Tryz.func48, Tryz.ntmps48
  go_wp2
  go_loop [5, 6] (fun x y => ∃ (k l : Nat), y = .int .i64 k ∧ x = .int .i64 l ∧ k ≤ 26 ∧ l < 16 ∧ Hid (togR of names (26 - k) l = togC of names)) (fun _ y => 26 - (intOf y).toNat)
  case atStart => exact ⟨0, 0, rfl, rfl, by omega, by omega, rfl⟩
  case round =>
    obtain ⟨k, l, rfl, rfl, hk, hl, HT⟩ := hrel
    by_cases hlt : k < 26
    · have hcell : (w.alloc (.cells (arrV of) 60)).cell? ⟨w.heap.size, k, none⟩ = some (.int .i64 (of.getD k 0 : Nat)) := by
        simp [go_sem, arrV, natV, hof, hlt]
      have hol : of.getD k 0 < 16 := by
        rw [List.getD_eq_getElem?_getD, List.getElem?_eq_getElem (by omega)]
        exact h16 _ (List.getElem_mem _)
      have hap := and_pow names k 26 hn (by omega) (by omega)
      by_cases hb : names &&& 2 ^ k = 0
      · have HF : Hid _ := tog_no (of := of) (l := l) hlt hb
        rw [hb] at hap
        have HAP : Hid (bits .and .i64 (names : Int) (wrap64 (2 ^ k)) = ((0 : Nat) : Int)) := hap
        clear hap hb hcell
        have tb : (bits .and .i64 (names : Int) (wrap64 (2 ^ k)) != 0) = false := by rw [HAP.out]; rfl
        go_wp2
        exact ⟨⟨k + 1, l, by go_num, rfl, by omega, hl, HF.out.trans HT.out⟩, by simp [intOf]; omega⟩
      · have HF : Hid _ := tog_yes (of := of) (l := l) hlt hb
        have tb : (bits .and .i64 (names : Int) (wrap64 (2 ^ k)) != 0) = true := by rw [hap]; simpa using hb
        have ho := i64_or_nat l (of.getD k 0) (by omega) (by omega)
        have hlq := or_lt16 hl hol
        clear hap hb
        generalize of.getD k 0 = q at *
        go_wp2
        exact ⟨⟨k + 1, l ||| q, by go_num, rfl, by omega, hlq, HF.out.trans HT.out⟩, by simp [intOf]; omega⟩
    · have HF : Hid (l = togC of names) := by
        have t := HT.out
        rw [show 26 - k = 0 by omega] at t
        exact t
      go_wp2
      go_ret
      exact ⟨ret_int (by rw [HF.out]), rfl⟩

end Go.Proofs.YtdgmoiflahoihaaGreat
