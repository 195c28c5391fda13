import Derived.RowKit
import Derived.Test.YtdgmoiflahoihabGreatDoorVPw

namespace Go.Proofs.YtdgmoiflahoihabGreatDoor
open Go.RowKit
set_option linter.unusedSimpArgs false
set_option linter.unusedVariables false
theorem tx_of_list {S : ByteArray} {l : List UInt8} (h : S.data.toList = l) : S = ⟨l.toArray⟩ := by
 subst h
 simp
def txt (l : List UInt8) : ByteArray := ⟨l.toArray⟩
theorem txt_append (a b : List UInt8) : txt a ++ txt b = txt (a ++ b) := by
 refine (tx_of_list (l := a ++ b) ?_)
 rw [ByteArray.data_append, Array.toList_append]
 rfl
end Go.Proofs.YtdgmoiflahoihabGreatDoor
namespace Go.Proofs.YtdgmoiflahoihabGreatDoor
set_option linter.unusedSimpArgs false
set_option linter.unusedVariables false
def decB (n : Nat) : List UInt8 := if h : n < 10 then [UInt8.ofNat (48 + n)] else decB (n / 10) ++ [UInt8.ofNat (48 + n % 10)]
decreasing_by omega
theorem decB_small {n : Nat} (h : n < 10) : decB n = [UInt8.ofNat (48 + n)] := by rw [decB, dif_pos h]
theorem decB_snoc {n d : Nat} (hn : 1 ≤ n) (hd : d < 10) : decB (10 * n + d) = decB n ++ [UInt8.ofNat (48 + d)] := by
 rw [decB, dif_neg (by omega), show (10 * n + d) / 10 = n by omega, show (10 * n + d) % 10 = d by omega]
def intB (x : Int) : List UInt8 := if x < 0 then 45 :: decB x.natAbs else decB x.natAbs
def worthB (v : Vl) : List UInt8 := if v.fault ≠ 0 then 33 :: intB v.fault else intB v.num
structure Ln where
 place : Int
 val : Vl
structure LnOk (l : Ln) : Prop where
 lo : 0 ≤ l.place
 hi : l.place ≤ 400
 val : VlOk l.val
def lineB (l : Ln) : List UInt8 := intB l.place ++ 58 :: worthB l.val
def linesB : List Ln → List UInt8
 | [] => []
 | l :: r => lineB l ++ 10 :: linesB r
def isDig (c : UInt8) : Bool := decide (48 ≤ c) && decide (c ≤ 57)
def valD : Nat → List UInt8 → Nat
 | v, [] => v
 | v, c :: r => valD (10 * v + (c.toNat - 48)) r
theorem valD_append : ∀ (v : Nat) (a b : List UInt8), valD v (a ++ b) = valD (valD v a) b
 | v, [], b => rfl
 | v, c :: r, b => valD_append _ r b
theorem dig_of {d : Nat} (h : d < 10) : isDig (UInt8.ofNat (48 + d)) = true ∧ (UInt8.ofNat (48 + d)).toNat - 48 = d ∧ (UInt8.ofNat (48 + d)).toNat = 48 + d := by
 have : ∀ d, d < 10 → isDig (UInt8.ofNat (48 + d)) = true ∧ (UInt8.ofNat (48 + d)).toNat - 48 = d ∧ (UInt8.ofNat (48 + d)).toNat = 48 + d := by decide
 exact this d h
theorem decB_head (n : Nat) : 1 ≤ n → ∃ (d : Nat) (ds : List UInt8), 1 ≤ d ∧ d < 10 ∧ decB n = UInt8.ofNat (48 + d) :: ds ∧ (∀ c ∈ ds, isDig c = true) ∧ valD d ds = n := by
 induction n using Nat.strongRecOn with
 | _ n ih =>
  intro hn
  by_cases h : n < 10
  ·exact ⟨n, [], hn, h, decB_small h, by simp, rfl⟩
  ·obtain ⟨d, ds, h1, h2, h3, h4, h5⟩ := ih (n / 10) (by omega) (by omega)
   have e : decB n = decB (n / 10) ++ [UInt8.ofNat (48 + n % 10)] := by rw [decB, dif_neg h]
   obtain ⟨g1, g2, _⟩ := dig_of (d := n % 10) (by omega)
   refine ⟨d, ds ++ [UInt8.ofNat (48 + n % 10)], h1, h2, by rw [e, h3]; rfl, ?_, ?_⟩
   ·intro c hc
    rcases List.mem_append.mp hc with hc | hc
    ·exact h4 c hc
    ·rw [List.mem_singleton.mp hc]; exact g1
   ·rw [valD_append, h5]
    show 10 * (n / 10) + _ = n
    rw [g2]
    omega
theorem decB_len : ∀ (k n : Nat), n < 10 ^ (k + 1) → (decB n).length ≤ k + 1
 | 0, n, h => by rw [decB_small (by simpa using h)]; simp
 | k + 1, n, h => by
  by_cases hs : n < 10
  ·rw [decB_small hs]; simp
  ·rw [decB, dif_neg hs]
   have := decB_len k (n / 10) (by rw [Nat.pow_succ] at h; omega)
   simp
   omega
theorem decB_dig (n : Nat) : ∀ c ∈ decB n, isDig c = true := by
 intro c hc
 by_cases h : 1 ≤ n
 ·obtain ⟨d, ds, h1, h2, h3, h4, h5⟩ := decB_head n h
  rw [h3] at hc
  rcases List.mem_cons.mp hc with rfl | hc
  ·exact (dig_of h2).1
  ·exact h4 c hc
 ·rw [decB_small (by omega)] at hc
  rw [List.mem_singleton.mp hc]
  exact (dig_of (by omega)).1
structure Sc where
 rest : List UInt8
 bad : Bool
def Sc.sees (x : Sc) (lo hi : UInt8) : Bool := match x.rest with | [] => false | c :: _ => decide (lo ≤ c) && decide (c ≤ hi)
def Sc.take (x : Sc) (lo hi : UInt8) : Nat × Sc := match x.rest with | [] => (0, ⟨[], true⟩) | c :: r => if decide (lo ≤ c) && decide (c ≤ hi) then (c.toNat - lo.toNat, ⟨r, x.bad⟩) else (0, ⟨c :: r, true⟩)
def bdMinF (B : Nat) : List UInt8 → Nat → Nat × List UInt8 × Bool
 | [], v => (v, [], false)
 | c :: r, v => if isDig c then (if B < 10 * v + (c.toNat - 48) then (0, r, true) else bdMinF B r (10 * v + (c.toNat - 48))) else (v, c :: r, false)
def Sc.minus (x : Sc) (B : Nat) : Nat × Sc :=
 let p := x.take 49 57
 let q := bdMinF B p.2.rest (p.1 + 1)
 (q.1, ⟨q.2.1, p.2.bad || q.2.2⟩)
def Sc.number (x : Sc) (B : Nat) : Nat × Sc := if x.sees 48 48 then (0, (x.take 48 48).2) else x.minus B
def Sc.value (x : Sc) : Vl × Sc :=
 if x.sees 33 33 then
  let p := (x.take 33 33).2.take 49 50
  (⟨0, 1 + (p.1 : Int)⟩, p.2)
 else if x.sees 45 45 then
  let p := (x.take 45 45).2.minus 9223372036854775808
  (⟨-(p.1 : Int), 0⟩, p.2)
 else
  let p := x.number 9223372036854775807
  (⟨p.1, 0⟩, p.2)
def Sc.line (x : Sc) : Ln × Sc :=
 let p := x.number 400
 let q := (p.2.take 58 58).2.value
 (⟨p.1, q.1⟩, (q.2.take 10 10).2)
def readF : Nat → Sc → List Ln × Sc
 | 0, x => ([], x)
 | n + 1, x => if x.bad || x.rest.isEmpty then ([], x) else ((x.line.1 :: (readF n x.line.2).1), (readF n x.line.2).2)
def readP (t : List UInt8) : Option (List Ln) := if (readF (t.length + 1) ⟨t, false⟩).2.bad then none else some (readF (t.length + 1) ⟨t, false⟩).1
theorem take_good {x : Sc} {lo hi : UInt8} (h : (x.take lo hi).2.bad = false) : x.bad = false ∧ ∃ c, x.rest = c :: (x.take lo hi).2.rest ∧ lo ≤ c ∧ c ≤ hi ∧ (x.take lo hi).1 = c.toNat - lo.toNat := by
 unfold Sc.take at h ⊢
 split at h
 ·simp at h
 ·rename_i c r e
  split at h
  ·rename_i k
   rw [Bool.and_eq_true, decide_eq_true_eq, decide_eq_true_eq] at k
   refine ⟨h, c, ?_, k.1, k.2, ?_⟩ <;> simp [e, k.1, k.2]
  ·simp at h
theorem take_one {x : Sc} {c : UInt8} (h : (x.take c c).2.bad = false) : x.bad = false ∧ x.rest = c :: (x.take c c).2.rest := by
 obtain ⟨h1, d, h2, h3, h4, _⟩ := take_good h
 have : d = c := UInt8.le_antisymm h4 h3
 subst this
 exact ⟨h1, h2⟩
theorem dig_back {c : UInt8} (h : isDig c = true) : ∃ d, d < 10 ∧ c = UInt8.ofNat (48 + d) ∧ c.toNat - 48 = d := by
 unfold isDig at h
 rw [Bool.and_eq_true, decide_eq_true_eq, decide_eq_true_eq, UInt8.le_iff_toNat_le, UInt8.le_iff_toNat_le] at h
 have a1 : (48 : UInt8).toNat = 48 := rfl
 have a2 : (57 : UInt8).toNat = 57 := rfl
 rw [a1, a2] at h
 refine ⟨c.toNat - 48, by omega, ?_, rfl⟩
 rw [show 48 + (c.toNat - 48) = c.toNat by omega]
 simp
theorem bdMinF_sound (B : Nat) : ∀ (r : List UInt8) (v : Nat), 1 ≤ v → (bdMinF B r v).2.2 = false → ∃ ds, r = ds ++ (bdMinF B r v).2.1 ∧ decB (bdMinF B r v).1 = decB v ++ ds ∧ v ≤ (bdMinF B r v).1 ∧ (v ≤ B → (bdMinF B r v).1 ≤ B)
 | [], v, hv, h => ⟨[], rfl, by simp [bdMinF], Nat.le_refl _, fun h => h⟩
 | c :: r, v, hv, h => by
  unfold bdMinF at h ⊢
  by_cases hd : isDig c = true
  ·rw [if_pos hd] at h ⊢
   by_cases hb : B < 10 * v + (c.toNat - 48)
   ·rw [if_pos hb] at h; cases h
   ·rw [if_neg hb] at h ⊢
    obtain ⟨d, d1, d2, d3⟩ := dig_back hd
    obtain ⟨ds, e1, e2, e3, e4⟩ := bdMinF_sound B r _ (by omega) h
    refine ⟨c :: ds, by rw [List.cons_append, ← e1], ?_, by omega, fun _ => e4 (by omega)⟩
    rw [e2, d3, decB_snoc hv d1, ← d2]
    simp
  ·rw [if_neg hd]
   exact ⟨[], rfl, by simp, Nat.le_refl _, fun h => h⟩
theorem minus_sound {x : Sc} {B : Nat} (hB : 9 ≤ B) (h : (x.minus B).2.bad = false) : x.bad = false ∧ x.rest = decB (x.minus B).1 ++ (x.minus B).2.rest ∧ 1 ≤ (x.minus B).1 ∧ (x.minus B).1 ≤ B := by
 unfold Sc.minus at h ⊢
 simp only [Bool.or_eq_false_iff] at h ⊢
 obtain ⟨h1, c, h2, h3, h4, h5⟩ := take_good h.1
 rw [UInt8.le_iff_toNat_le] at h3 h4
 have a1 : (49 : UInt8).toNat = 49 := rfl
 have a2 : (57 : UInt8).toNat = 57 := rfl
 rw [a1] at h3 h5
 rw [a2] at h4
 obtain ⟨ds, e1, e2, e3, e4⟩ := bdMinF_sound B _ _ (by omega) h.2
 refine ⟨h1, ?_, by omega, e4 (by omega)⟩
 rw [e2, h2, decB_small (by omega), h5, show 48 + (c.toNat - 49 + 1) = c.toNat by omega]
 simp only [UInt8.ofNat_toNat, List.singleton_append, List.cons_append, List.cons.injEq, true_and]
 rw [h5] at e1
 exact e1
theorem number_sound {x : Sc} {B : Nat} (hB : 9 ≤ B) (h : (x.number B).2.bad = false) : x.bad = false ∧ x.rest = decB (x.number B).1 ++ (x.number B).2.rest ∧ (x.number B).1 ≤ B := by
 unfold Sc.number at h ⊢
 by_cases hs : x.sees 48 48 = true
 ·rw [if_pos hs] at h ⊢
  obtain ⟨h1, h2⟩ := take_one h
  exact ⟨h1, by rw [h2, decB_small (by omega)]; rfl, by omega⟩
 ·rw [if_neg hs] at h ⊢
  obtain ⟨h1, h2, h3, h4⟩ := minus_sound hB h
  exact ⟨h1, h2, h4⟩
theorem intB_nat (n : Nat) : intB (n : Int) = decB n := by
 unfold intB
 rw [if_neg (by omega)]
 rfl
theorem intB_neg {n : Nat} (h : 1 ≤ n) : intB (-(n : Int)) = 45 :: decB n := by
 unfold intB
 rw [if_pos (by omega)]
 simp
theorem value_sound {x : Sc} (h : x.value.2.bad = false) : x.bad = false ∧ x.rest = worthB x.value.1 ++ x.value.2.rest ∧ VlOk x.value.1 := by
 unfold Sc.value at h ⊢
 by_cases h33 : x.sees 33 33 = true
 ·rw [if_pos h33] at h ⊢
  simp only at h ⊢
  obtain ⟨k1, c, k2, k3, k4, k5⟩ := take_good h
  obtain ⟨j1, j2⟩ := take_one k1
  rw [UInt8.le_iff_toNat_le] at k3 k4
  have a1 : (49 : UInt8).toNat = 49 := rfl
  have a2 : (50 : UInt8).toNat = 50 := rfl
  rw [a1] at k3 k5
  rw [a2] at k4
  have hf : worthB ⟨0, 1 + ((((x.take 33 33).2.take 49 50).1 : Nat) : Int)⟩ = [33, c] := by
   rw [k5]
   unfold worthB
   rw [if_pos (by simp only; omega)]
   simp only
   rw [show (1 : Int) + ((c.toNat - 49 : Nat) : Int) = ((c.toNat - 48 : Nat) : Int) by omega, intB_nat, decB_small (by omega), show 48 + (c.toNat - 48) = c.toNat by omega]
   simp
  refine ⟨j1, ?_, ⟨?_, ?_, ?_⟩⟩
  ·rw [hf, j2, k2]; rfl
  ·simp only; omega
  ·simp only; rw [k5]; omega
  ·intro _; rfl
 ·rw [if_neg h33] at h ⊢
  by_cases h45 : x.sees 45 45 = true
  ·rw [if_pos h45] at h ⊢
   simp only at h ⊢
   obtain ⟨k1, k2, k3, k4⟩ := minus_sound (by decide) h
   obtain ⟨j1, j2⟩ := take_one k1
   refine ⟨j1, ?_, ⟨?_, ?_, ?_⟩⟩
   ·unfold worthB
    rw [if_neg (by simp)]
    simp only
    rw [intB_neg k3, j2, k2]
    rfl
   ·simp only; omega
   ·simp only; omega
   ·intro h; exact absurd rfl h
  ·rw [if_neg h45] at h ⊢
   simp only at h ⊢
   obtain ⟨k1, k2, k3⟩ := number_sound (by decide) h
   refine ⟨k1, ?_, ⟨?_, ?_, ?_⟩⟩
   ·unfold worthB
    rw [if_neg (by simp)]
    simp only
    rw [intB_nat]
    exact k2
   ·simp only; omega
   ·simp only; omega
   ·intro h; exact absurd rfl h
theorem line_sound {x : Sc} (h : x.line.2.bad = false) : x.bad = false ∧ x.rest = lineB x.line.1 ++ 10 :: x.line.2.rest ∧ LnOk x.line.1 := by
 unfold Sc.line at h ⊢
 simp only at h ⊢
 obtain ⟨a1, a2⟩ := take_one h
 obtain ⟨b1, b2, b3⟩ := value_sound a1
 obtain ⟨c1, c2⟩ := take_one b1
 obtain ⟨d1, d2, d3⟩ := number_sound (by decide) c1
 refine ⟨d1, ?_, ⟨by simp only; omega, by simp only; omega, b3⟩⟩
 unfold lineB
 simp only
 rw [intB_nat, d2, c2, b2, a2]
 simp
theorem readF_sound : ∀ (n : Nat) (x : Sc), x.rest.length < n → (readF n x).2.bad = false → x.bad = false ∧ x.rest = linesB (readF n x).1 ∧ ∀ l ∈ (readF n x).1, LnOk l
 | 0, x, hn, h => by omega
 | n + 1, x, hn, h => by
  unfold readF at h ⊢
  by_cases hx : (x.bad || x.rest.isEmpty) = true
  ·rw [if_pos hx] at h ⊢
   simp only at h ⊢
   rw [h, Bool.false_or, List.isEmpty_iff] at hx
   exact ⟨h, by rw [hx]; rfl, by simp⟩
  ·rw [if_neg hx] at h ⊢
   simp only at h ⊢
   by_cases hb : x.line.2.bad = true
   ·exfalso
    cases n with
    | zero => unfold readF at h; rw [hb] at h; cases h
    | succ n =>
     unfold readF at h
     rw [hb] at h
     simp only [Bool.true_or, if_true] at h
     rw [hb] at h
     cases h
   ·rw [Bool.not_eq_true] at hb
    obtain ⟨a1, a2, a3⟩ := line_sound hb
    have hl := congrArg List.length a2
    simp only [List.length_append, List.length_cons] at hl
    obtain ⟨b1, b2, b3⟩ := readF_sound n x.line.2 (by omega) h
    refine ⟨a1, ?_, ?_⟩
    ·rw [a2]
     show _ = lineB _ ++ 10 :: linesB _
     rw [b2]
    ·intro l hl
     rcases List.mem_cons.mp hl with rfl | hl
     ·exact a3
     ·exact b3 l hl
theorem take_hit (x : Sc) (c : UInt8) (r : List UInt8) (lo hi : UInt8) (h : x.rest = c :: r) (h1 : lo ≤ c) (h2 : c ≤ hi) : x.take lo hi = (c.toNat - lo.toNat, ⟨r, x.bad⟩) := by
 unfold Sc.take
 rw [h]
 simp [h1, h2]
theorem bdMinF_full (B : Nat) (c : UInt8) (r : List UInt8) (hc : isDig c = false) : ∀ (ds : List UInt8) (v : Nat), (∀ c ∈ ds, isDig c = true) → valD v ds ≤ B → bdMinF B (ds ++ c :: r) v = (valD v ds, c :: r, false)
 | [], v, hd, hB => by
  rw [List.nil_append, bdMinF, if_neg (by rw [hc]; exact Bool.false_ne_true)]
  rfl
 | e :: ds, v, hd, hB => by
  have he := hd e (by simp)
  have mono : ∀ (ds : List UInt8) (v : Nat), v ≤ valD v ds := by
   intro ds
   induction ds with
   | nil => intro v; exact Nat.le_refl _
   | cons a r ih => intro v; exact Nat.le_trans (by omega) (ih _)
  have hm := mono ds (10 * v + (e.toNat - 48))
  have hv : valD v (e :: ds) = valD (10 * v + (e.toNat - 48)) ds := rfl
  rw [hv] at hB
  rw [List.cons_append, bdMinF, if_pos he, if_neg (by omega), hv]
  exact bdMinF_full B c r hc ds _ (fun c hc => hd c (by simp [hc])) hB
theorem minus_full {B n : Nat} (c : UInt8) (r : List UInt8) (hc : isDig c = false) (hn : 1 ≤ n) (hB : n ≤ B) : Sc.minus ⟨decB n ++ c :: r, false⟩ B = (n, ⟨c :: r, false⟩) := by
 obtain ⟨d, ds, h1, h2, h3, h4, h5⟩ := decB_head n hn
 obtain ⟨g1, g2, g3⟩ := dig_of h2
 unfold Sc.minus
 rw [take_hit ⟨decB n ++ c :: r, false⟩ (UInt8.ofNat (48 + d)) (ds ++ c :: r) 49 57 (by rw [h3]; rfl) (by rw [UInt8.le_iff_toNat_le, g3]; show 49 ≤ _; omega) (by rw [UInt8.le_iff_toNat_le, g3]; show _ ≤ 57; omega)]
 simp only [g3]
 have a1 : (49 : UInt8).toNat = 49 := rfl
 rw [a1, show 48 + d - 49 + 1 = d by omega, bdMinF_full B c r hc ds d h4 (by omega), h5]
 rfl
theorem number_full {B n : Nat} (c : UInt8) (r : List UInt8) (hc : isDig c = false) (hB : n ≤ B) : Sc.number ⟨decB n ++ c :: r, false⟩ B = (n, ⟨c :: r, false⟩) := by
 by_cases hn : 1 ≤ n
 ·have hs : Sc.sees ⟨decB n ++ c :: r, false⟩ 48 48 = false := by
   obtain ⟨d, ds, h1, h2, h3, h4, h5⟩ := decB_head n hn
   obtain ⟨g1, g2, g3⟩ := dig_of h2
   unfold Sc.sees
   rw [h3]
   simp only [List.cons_append, Bool.and_eq_false_iff, decide_eq_false_iff_not, UInt8.le_iff_toNat_le, g3]
   right
   show ¬ (48 + d ≤ 48)
   omega
  unfold Sc.number
  rw [hs]
  exact minus_full c r hc hn hB
 ·obtain rfl : n = 0 := by omega
  rw [decB_small (by omega)]
  rfl
theorem value_full (v : Vl) (r : List UInt8) (hv : VlOk v) : Sc.value ⟨worthB v ++ 10 :: r, false⟩ = (v, ⟨10 :: r, false⟩) := by
 obtain ⟨num, fault⟩ := v
 obtain ⟨h1, h2, h3⟩ := hv
 simp only at h1 h2 h3
 by_cases hf : fault = 0
 ·subst hf
  have hw : worthB ⟨num, 0⟩ = intB num := by unfold worthB; simp
  rw [hw]
  by_cases hm : num < 0
  ·obtain ⟨n, hn1, rfl⟩ : ∃ n : Nat, 1 ≤ n ∧ num = -(n : Int) := ⟨num.natAbs, by omega, by omega⟩
   rw [intB_neg hn1]
   unfold Sc.value
   rw [if_neg (by simp [Sc.sees]), if_pos (by rfl)]
   rw [take_hit ⟨45 :: decB n ++ 10 :: r, false⟩ 45 (decB n ++ 10 :: r) 45 45 rfl (by decide) (by decide)]
   simp only
   have hmn : n ≤ 9223372036854775808 := by omega
   generalize hBB : (9223372036854775808 : Nat) = BB at hmn ⊢
   rw [minus_full 10 r (by decide) hn1 hmn]
  ·obtain ⟨n, rfl⟩ : ∃ n : Nat, num = (n : Int) := ⟨num.toNat, by omega⟩
   rw [intB_nat]
   have hs : ∀ c : UInt8, isDig c = false → Sc.sees ⟨decB n ++ 10 :: r, false⟩ c c = false := by
    intro c hc
    have hd := decB_dig n
    have hne : decB n ≠ [] := by
     rw [decB]; split <;> simp
    unfold Sc.sees
    cases hk : decB n with
    | nil => exact absurd hk hne
    | cons e l =>
     rw [hk] at hd
     have he := hd e (by simp)
     simp only [List.cons_append]
     rw [Bool.and_eq_false_iff, decide_eq_false_iff_not, decide_eq_false_iff_not]
     by_cases k1 : c ≤ e
     ·by_cases k2 : e ≤ c
      ·have : e = c := UInt8.le_antisymm k2 k1
       subst this
       rw [he] at hc
       cases hc
      ·exact .inr k2
     ·exact .inl k1
   unfold Sc.value
   rw [if_neg (by rw [hs 33 (by decide)]; simp), if_neg (by rw [hs 45 (by decide)]; simp), number_full 10 r (by decide) (by omega)]
 ·have hn := h3 hf
  subst hn
  have : fault = 1 ∨ fault = 2 := by omega
  rcases this with rfl | rfl
  ·have : worthB ⟨0, 1⟩ = [33, 49] := by unfold worthB; simp [intB, decB_small]
   rw [this]
   rfl
  ·have : worthB ⟨0, 2⟩ = [33, 50] := by unfold worthB; simp [intB, decB_small]
   rw [this]
   rfl
theorem line_full (l : Ln) (r : List UInt8) (hl : LnOk l) : Sc.line ⟨lineB l ++ 10 :: r, false⟩ = (l, ⟨r, false⟩) := by
 obtain ⟨p, v⟩ := l
 obtain ⟨h1, h2, h3⟩ := hl
 simp only at h1 h2 h3
 obtain ⟨n, rfl⟩ : ∃ n : Nat, p = (n : Int) := ⟨p.toNat, by omega⟩
 unfold Sc.line lineB
 simp only
 rw [intB_nat, List.append_assoc, List.cons_append, number_full 58 _ (by decide) (by omega)]
 simp only
 rw [take_hit ⟨58 :: (worthB v ++ 10 :: r), false⟩ 58 _ 58 58 rfl (by decide) (by decide)]
 simp only
 rw [value_full v r h3]
 simp only
 rw [take_hit ⟨10 :: r, false⟩ 10 _ 10 10 rfl (by decide) (by decide)]
theorem readF_full : ∀ (ls : List Ln) (n : Nat), (linesB ls).length < n → (∀ l ∈ ls, LnOk l) → readF n ⟨linesB ls, false⟩ = (ls, ⟨[], false⟩)
 | [], n, hn, h => by
  cases n with
  | zero => omega
  | succ n => rfl
 | l :: ls, n, hn, h => by
  cases n with
  | zero => omega
  | succ n =>
   have e : linesB (l :: ls) = lineB l ++ 10 :: linesB ls := rfl
   rw [e] at hn ⊢
   simp only [List.length_append, List.length_cons] at hn
   unfold readF
   rw [if_neg (by simp), line_full l _ (h l (by simp))]
   simp only
   rw [readF_full ls n (by omega) (fun x hx => h x (by simp [hx]))]
theorem readP_some {t : List UInt8} {ls : List Ln} : readP t = some ls ↔ t = linesB ls ∧ ∀ l ∈ ls, LnOk l := by
 unfold readP
 constructor
 ·intro h
  by_cases hb : (readF (t.length + 1) ⟨t, false⟩).2.bad = true
  ·rw [if_pos hb] at h; cases h
  ·rw [if_neg hb, Option.some.injEq] at h
   subst h
   rw [Bool.not_eq_true] at hb
   exact (readF_sound _ _ (by simp) hb).2
 ·rintro ⟨rfl, h⟩
  rw [readF_full ls _ (by omega) h]
  rfl
end Go.Proofs.YtdgmoiflahoihabGreatDoor
