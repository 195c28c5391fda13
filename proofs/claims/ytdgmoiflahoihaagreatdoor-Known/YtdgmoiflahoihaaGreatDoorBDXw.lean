import Derived.RowKit
import Derived.Test.YtdgmoiflahoihaaGreatDoorVPw

namespace Go.Proofs.YtdgmoiflahoihaaGreatDoor
open Go.RowKit
set_option linter.unusedSimpArgs false
set_option linter.unusedVariables false
theorem tx_of_list {S : ByteArray} {l : List UInt8} (h : S.data.toList = l) : S = ⟨l.toArray⟩ := by
 subst h
 simp
def txt (l : List UInt8) : ByteArray := ⟨l.toArray⟩
theorem txt_append (a b : List UInt8) : txt a ++ txt b = txt (a ++ b) := by
 refine (tx_of_list (l := a ++ b) ?_)
 rw [ByteArray.data_append, Array.toList_append]
 rfl
theorem txt_size (l : List UInt8) : (txt l).size = l.length := rfl
end Go.Proofs.YtdgmoiflahoihaaGreatDoor
namespace Go.Proofs.YtdgmoiflahoihaaGreatDoor
set_option linter.unusedSimpArgs false
set_option linter.unusedVariables false
def decB (n : Nat) : List UInt8 := if h : n < 10 then [UInt8.ofNat (48 + n)] else decB (n / 10) ++ [UInt8.ofNat (48 + n % 10)]
decreasing_by omega
theorem decB_small {n : Nat} (h : n < 10) : decB n = [UInt8.ofNat (48 + n)] := by rw [decB, dif_pos h]
theorem decB_snoc {n d : Nat} (hn : 1 ≤ n) (hd : d < 10) : decB (10 * n + d) = decB n ++ [UInt8.ofNat (48 + d)] := by
 rw [decB, dif_neg (by omega), show (10 * n + d) / 10 = n by omega, show (10 * n + d) % 10 = d by omega]
def intB (x : Int) : List UInt8 := if x < 0 then 45 :: decB x.natAbs else decB x.natAbs
def worthB (v : Vl) : List UInt8 := if v.fault ≠ 0 then 33 :: intB v.fault else intB v.num
structure Ln where
 place : Int
 val : Vl
structure LnOk (l : Ln) : Prop where
 lo : 0 ≤ l.place
 hi : l.place ≤ 400
 val : VlOk l.val
def lineB (l : Ln) : List UInt8 := intB l.place ++ 58 :: worthB l.val
def isDig (c : UInt8) : Bool := decide (48 ≤ c) && decide (c ≤ 57)
theorem decB_len : ∀ (k n : Nat), n < 10 ^ (k + 1) → (decB n).length ≤ k + 1
 | 0, n, h => by rw [decB_small (by simpa using h)]; simp
 | k + 1, n, h => by
  by_cases hs : n < 10
  ·rw [decB_small hs]; simp
  ·rw [decB, dif_neg hs]
   have := decB_len k (n / 10) (by rw [Nat.pow_succ] at h; omega)
   simp
   omega
structure Sc where
 rest : List UInt8
 bad : Bool
def Sc.sees (x : Sc) (lo hi : UInt8) : Bool := match x.rest with | [] => false | c :: _ => decide (lo ≤ c) && decide (c ≤ hi)
def Sc.take (x : Sc) (lo hi : UInt8) : Nat × Sc := match x.rest with | [] => (0, ⟨[], true⟩) | c :: r => if decide (lo ≤ c) && decide (c ≤ hi) then (c.toNat - lo.toNat, ⟨r, x.bad⟩) else (0, ⟨c :: r, true⟩)
def bdMinF (B : Nat) : List UInt8 → Nat → Nat × List UInt8 × Bool
 | [], v => (v, [], false)
 | c :: r, v => if isDig c then (if B < 10 * v + (c.toNat - 48) then (0, r, true) else bdMinF B r (10 * v + (c.toNat - 48))) else (v, c :: r, false)
def Sc.minus (x : Sc) (B : Nat) : Nat × Sc :=
 let p := x.take 49 57
 let q := bdMinF B p.2.rest (p.1 + 1)
 (q.1, ⟨q.2.1, p.2.bad || q.2.2⟩)
def Sc.number (x : Sc) (B : Nat) : Nat × Sc := if x.sees 48 48 then (0, (x.take 48 48).2) else x.minus B
def Sc.value (x : Sc) : Vl × Sc :=
 if x.sees 33 33 then
  let p := (x.take 33 33).2.take 49 50
  (⟨0, 1 + (p.1 : Int)⟩, p.2)
 else if x.sees 45 45 then
  let p := (x.take 45 45).2.minus 9223372036854775808
  (⟨-(p.1 : Int), 0⟩, p.2)
 else
  let p := x.number 9223372036854775807
  (⟨p.1, 0⟩, p.2)
def Sc.line (x : Sc) : Ln × Sc :=
 let p := x.number 400
 let q := (p.2.take 58 58).2.value
 (⟨p.1, q.1⟩, (q.2.take 10 10).2)
def readF : Nat → Sc → List Ln × Sc
 | 0, x => ([], x)
 | n + 1, x => if x.bad || x.rest.isEmpty then ([], x) else ((x.line.1 :: (readF n x.line.2).1), (readF n x.line.2).2)
def readP (t : List UInt8) : Option (List Ln) := if (readF (t.length + 1) ⟨t, false⟩).2.bad then none else some (readF (t.length + 1) ⟨t, false⟩).1
theorem take_good {x : Sc} {lo hi : UInt8} (h : (x.take lo hi).2.bad = false) : x.bad = false ∧ ∃ c, x.rest = c :: (x.take lo hi).2.rest ∧ lo ≤ c ∧ c ≤ hi ∧ (x.take lo hi).1 = c.toNat - lo.toNat := by
 unfold Sc.take at h ⊢
 split at h
 ·simp at h
 ·rename_i c r e
  split at h
  ·rename_i k
   rw [Bool.and_eq_true, decide_eq_true_eq, decide_eq_true_eq] at k
   refine ⟨h, c, ?_, k.1, k.2, ?_⟩ <;> simp [e, k.1, k.2]
  ·simp at h
theorem take_one {x : Sc} {c : UInt8} (h : (x.take c c).2.bad = false) : x.bad = false ∧ x.rest = c :: (x.take c c).2.rest := by
 obtain ⟨h1, d, h2, h3, h4, _⟩ := take_good h
 have : d = c := UInt8.le_antisymm h4 h3
 subst this
 exact ⟨h1, h2⟩
theorem dig_back {c : UInt8} (h : isDig c = true) : ∃ d, d < 10 ∧ c = UInt8.ofNat (48 + d) ∧ c.toNat - 48 = d := by
 unfold isDig at h
 rw [Bool.and_eq_true, decide_eq_true_eq, decide_eq_true_eq, UInt8.le_iff_toNat_le, UInt8.le_iff_toNat_le] at h
 have a1 : (48 : UInt8).toNat = 48 := rfl
 have a2 : (57 : UInt8).toNat = 57 := rfl
 rw [a1, a2] at h
 refine ⟨c.toNat - 48, by omega, ?_, rfl⟩
 rw [show 48 + (c.toNat - 48) = c.toNat by omega]
 simp
theorem bdMinF_sound (B : Nat) : ∀ (r : List UInt8) (v : Nat), 1 ≤ v → (bdMinF B r v).2.2 = false → ∃ ds, r = ds ++ (bdMinF B r v).2.1 ∧ decB (bdMinF B r v).1 = decB v ++ ds ∧ v ≤ (bdMinF B r v).1 ∧ (v ≤ B → (bdMinF B r v).1 ≤ B)
 | [], v, hv, h => ⟨[], rfl, by simp [bdMinF], Nat.le_refl _, fun h => h⟩
 | c :: r, v, hv, h => by
  unfold bdMinF at h ⊢
  by_cases hd : isDig c = true
  ·rw [if_pos hd] at h ⊢
   by_cases hb : B < 10 * v + (c.toNat - 48)
   ·rw [if_pos hb] at h; cases h
   ·rw [if_neg hb] at h ⊢
    obtain ⟨d, d1, d2, d3⟩ := dig_back hd
    obtain ⟨ds, e1, e2, e3, e4⟩ := bdMinF_sound B r _ (by omega) h
    refine ⟨c :: ds, by rw [List.cons_append, ← e1], ?_, by omega, fun _ => e4 (by omega)⟩
    rw [e2, d3, decB_snoc hv d1, ← d2]
    simp
  ·rw [if_neg hd]
   exact ⟨[], rfl, by simp, Nat.le_refl _, fun h => h⟩
theorem minus_sound {x : Sc} {B : Nat} (hB : 9 ≤ B) (h : (x.minus B).2.bad = false) : x.bad = false ∧ x.rest = decB (x.minus B).1 ++ (x.minus B).2.rest ∧ 1 ≤ (x.minus B).1 ∧ (x.minus B).1 ≤ B := by
 unfold Sc.minus at h ⊢
 simp only [Bool.or_eq_false_iff] at h ⊢
 obtain ⟨h1, c, h2, h3, h4, h5⟩ := take_good h.1
 rw [UInt8.le_iff_toNat_le] at h3 h4
 have a1 : (49 : UInt8).toNat = 49 := rfl
 have a2 : (57 : UInt8).toNat = 57 := rfl
 rw [a1] at h3 h5
 rw [a2] at h4
 obtain ⟨ds, e1, e2, e3, e4⟩ := bdMinF_sound B _ _ (by omega) h.2
 refine ⟨h1, ?_, by omega, e4 (by omega)⟩
 rw [e2, h2, decB_small (by omega), h5, show 48 + (c.toNat - 49 + 1) = c.toNat by omega]
 simp only [UInt8.ofNat_toNat, List.singleton_append, List.cons_append, List.cons.injEq, true_and]
 rw [h5] at e1
 exact e1
theorem number_sound {x : Sc} {B : Nat} (hB : 9 ≤ B) (h : (x.number B).2.bad = false) : x.bad = false ∧ x.rest = decB (x.number B).1 ++ (x.number B).2.rest ∧ (x.number B).1 ≤ B := by
 unfold Sc.number at h ⊢
 by_cases hs : x.sees 48 48 = true
 ·rw [if_pos hs] at h ⊢
  obtain ⟨h1, h2⟩ := take_one h
  exact ⟨h1, by rw [h2, decB_small (by omega)]; rfl, by omega⟩
 ·rw [if_neg hs] at h ⊢
  obtain ⟨h1, h2, h3, h4⟩ := minus_sound hB h
  exact ⟨h1, h2, h4⟩
theorem intB_nat (n : Nat) : intB (n : Int) = decB n := by
 unfold intB
 rw [if_neg (by omega)]
 rfl
theorem intB_neg {n : Nat} (h : 1 ≤ n) : intB (-(n : Int)) = 45 :: decB n := by
 unfold intB
 rw [if_pos (by omega)]
 simp
theorem value_sound {x : Sc} (h : x.value.2.bad = false) : x.bad = false ∧ x.rest = worthB x.value.1 ++ x.value.2.rest ∧ VlOk x.value.1 := by
 unfold Sc.value at h ⊢
 by_cases h33 : x.sees 33 33 = true
 ·rw [if_pos h33] at h ⊢
  simp only at h ⊢
  obtain ⟨k1, c, k2, k3, k4, k5⟩ := take_good h
  obtain ⟨j1, j2⟩ := take_one k1
  rw [UInt8.le_iff_toNat_le] at k3 k4
  have a1 : (49 : UInt8).toNat = 49 := rfl
  have a2 : (50 : UInt8).toNat = 50 := rfl
  rw [a1] at k3 k5
  rw [a2] at k4
  have hf : worthB ⟨0, 1 + ((((x.take 33 33).2.take 49 50).1 : Nat) : Int)⟩ = [33, c] := by
   rw [k5]
   unfold worthB
   rw [if_pos (by simp only; omega)]
   simp only
   rw [show (1 : Int) + ((c.toNat - 49 : Nat) : Int) = ((c.toNat - 48 : Nat) : Int) by omega, intB_nat, decB_small (by omega), show 48 + (c.toNat - 48) = c.toNat by omega]
   simp
  refine ⟨j1, ?_, ⟨?_, ?_, ?_⟩⟩
  ·rw [hf, j2, k2]; rfl
  ·simp only; omega
  ·simp only; rw [k5]; omega
  ·intro _; rfl
 ·rw [if_neg h33] at h ⊢
  by_cases h45 : x.sees 45 45 = true
  ·rw [if_pos h45] at h ⊢
   simp only at h ⊢
   obtain ⟨k1, k2, k3, k4⟩ := minus_sound (by decide) h
   obtain ⟨j1, j2⟩ := take_one k1
   refine ⟨j1, ?_, ⟨?_, ?_, ?_⟩⟩
   ·unfold worthB
    rw [if_neg (by simp)]
    simp only
    rw [intB_neg k3, j2, k2]
    rfl
   ·simp only; omega
   ·simp only; omega
   ·intro h; exact absurd rfl h
  ·rw [if_neg h45] at h ⊢
   simp only at h ⊢
   obtain ⟨k1, k2, k3⟩ := number_sound (by decide) h
   refine ⟨k1, ?_, ⟨?_, ?_, ?_⟩⟩
   ·unfold worthB
    rw [if_neg (by simp)]
    simp only
    rw [intB_nat]
    exact k2
   ·simp only; omega
   ·simp only; omega
   ·intro h; exact absurd rfl h
theorem line_sound {x : Sc} (h : x.line.2.bad = false) : x.bad = false ∧ x.rest = lineB x.line.1 ++ 10 :: x.line.2.rest ∧ LnOk x.line.1 := by
 unfold Sc.line at h ⊢
 simp only at h ⊢
 obtain ⟨a1, a2⟩ := take_one h
 obtain ⟨b1, b2, b3⟩ := value_sound a1
 obtain ⟨c1, c2⟩ := take_one b1
 obtain ⟨d1, d2, d3⟩ := number_sound (by decide) c1
 refine ⟨d1, ?_, ⟨by simp only; omega, by simp only; omega, b3⟩⟩
 unfold lineB
 simp only
 rw [intB_nat, d2, c2, b2, a2]
 simp
end Go.Proofs.YtdgmoiflahoihaaGreatDoor
