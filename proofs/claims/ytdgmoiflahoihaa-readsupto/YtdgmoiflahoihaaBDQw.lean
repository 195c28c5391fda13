import Derived.Test.YtdgmoiflahoihaaBDPw

namespace Go.Proofs.Ytdgmoiflahoihaa
open Go.RowKit
set_option linter.unusedSimpArgs false
set_option linter.unusedVariables false
def foldU : Nat → List UInt8 → Option Nat
 | n, [] => some n
 | n, c :: r => if isDig c then foldU (10 * n + (c.toNat - 48)) r else none
def sgnV (n : Nat) (minus : Bool) : Int × Bool := (wrap64 (if minus then -(n : Int) else n), if minus then decide ((n : Int) ≤ 9223372036854775808) else decide ((n : Int) < 9223372036854775808))
def digF (f : Option Nat) (minus : Bool) : Int × Bool := match f with | none => (0, false) | some n => sgnV n minus
def digU (b : List UInt8) (minus : Bool) : Int × Bool := if b.length = 0 ∨ 19 < b.length then (0, false) else digF (foldU 0 b) minus
def digV : List UInt8 → Int × Bool
 | [] => (0, false)
 | c :: r => if c = 45 then digU r true else digU (c :: r) false
def valR (v : List UInt8) : Vl × Bool :=
 if v.length = 2 ∧ v.getD 0 0 = 33 then (⟨0, ((v.getD 1 0).toNat : Int) - 48⟩, decide ((v.getD 1 0).toNat = 49) || decide ((v.getD 1 0).toNat = 50))
 else (⟨(digV v).1, 0⟩, (digV v).2)
def upTo58 : List UInt8 → List UInt8 × Option (List UInt8)
 | [] => ([], none)
 | c :: r => if c = 58 then ([], some r) else (c :: (upTo58 r).1, (upTo58 r).2)
def lineR (s : List UInt8) : Ln × Bool :=
 match upTo58 s with
 | (_, none) => (⟨0, ⟨0, 0⟩⟩, false)
 | (a, some v) => (⟨(digV a).1, (valR v).1⟩, (digV a).2 && (valR v).2 && decide (0 ≤ (digV a).1) && decide ((digV a).1 ≤ 400) && decide (lineB ⟨(digV a).1, (valR v).1⟩ = s))
def refF : List UInt8 → List UInt8 → Option (List Ln)
 | cur, [] => if cur.isEmpty then some [] else none
 | cur, c :: r => if c = 10 then (if (lineR cur).2 then (refF [] r).map ((lineR cur).1 :: ·) else none) else refF (cur ++ [c]) r
theorem digV_lim (s : List UInt8) : -9223372036854775808 ≤ (digV s).1 ∧ (digV s).1 ≤ 9223372036854775807 := by
 have hU : ∀ b m, -9223372036854775808 ≤ (digU b m).1 ∧ (digU b m).1 ≤ 9223372036854775807 := by
  intro b m
  unfold digU
  split
  ·simp
  ·unfold digF
   split
   ·simp
   ·unfold sgnV
    simp only
    unfold wrap64
    omega
 unfold digV
 split
 ·simp
 ·split <;> exact hU _ _
theorem valR_ok {v : List UInt8} (h : (valR v).2 = true) : VlOk (valR v).1 := by
 unfold valR at h ⊢
 split
 ·rename_i k
  rw [if_pos k] at h
  simp only [Bool.or_eq_true, decide_eq_true_eq] at h
  exact ⟨by simp only; omega, by simp only; omega, fun _ => rfl⟩
 ·exact ⟨digV_lim v, by simp, fun h => absurd rfl h⟩
theorem lineR_sound {s : List UInt8} (h : (lineR s).2 = true) : s = lineB (lineR s).1 ∧ LnOk (lineR s).1 := by
 unfold lineR at h ⊢
 split at h
 ·cases h
 ·rename_i a v e
  simp only [Bool.and_eq_true, decide_eq_true_eq] at h
  obtain ⟨⟨⟨⟨h1, h2⟩, h3⟩, h4⟩, h5⟩ := h
  exact ⟨h5.symm, ⟨h3, h4, valR_ok h2⟩⟩
theorem refF_sound : ∀ (r cur : List UInt8) (ls : List Ln), refF cur r = some ls → cur ++ r = linesB ls ∧ ∀ l ∈ ls, LnOk l
 | [], cur, ls, h => by
  unfold refF at h
  split at h
  ·rename_i e
   rw [List.isEmpty_iff] at e
   cases h
   exact ⟨by rw [e]; rfl, by simp⟩
  ·cases h
 | c :: r, cur, ls, h => by
  unfold refF at h
  split at h
  ·rename_i e
   subst e
   split at h
   ·rename_i e2
    cases hr : refF [] r with
    | none => rw [hr] at h; cases h
    | some l2 =>
     rw [hr] at h
     simp only [Option.map_some, Option.some.injEq] at h
     subst h
     obtain ⟨a1, a2⟩ := refF_sound r [] l2 hr
     obtain ⟨b1, b2⟩ := lineR_sound e2
     refine ⟨?_, ?_⟩
     ·show _ = lineB _ ++ 10 :: linesB _
      rw [← a1, ← b1]
      rfl
     ·intro l hl
      rcases List.mem_cons.mp hl with rfl | hl
      ·exact b2
      ·exact a2 l hl
   ·cases h
  ·obtain ⟨a1, a2⟩ := refF_sound r _ ls h
   exact ⟨by rw [← a1]; simp, a2⟩
theorem foldU_dig : ∀ (ds : List UInt8) (v : Nat), (∀ c ∈ ds, isDig c = true) → foldU v ds = some (valD v ds)
 | [], v, h => rfl
 | c :: r, v, h => by
  unfold foldU
  rw [if_pos (h c (by simp)), foldU_dig r _ (fun x hx => h x (by simp [hx]))]
  rfl
theorem valD_dec (n : Nat) : valD 0 (decB n) = n := by
 by_cases hn : 1 ≤ n
 ·obtain ⟨d, ds, h1, h2, h3, h4, h5⟩ := decB_head n hn
  rw [h3]
  show valD (10 * 0 + _) ds = n
  rw [(dig_of h2).2.1, Nat.mul_zero, Nat.zero_add]
  exact h5
 ·obtain rfl : n = 0 := by omega
  rw [decB_small (by omega)]
  rfl
theorem decB_ne (n : Nat) : decB n ≠ [] := by rw [decB]; split <;> simp
theorem digU_dec {n : Nat} (m : Bool) (h : n ≤ 9223372036854775808) : digU (decB n) m = sgnV n m := by
 have h1 : (decB n).length ≠ 0 := fun e => decB_ne n (List.length_eq_zero_iff.mp e)
 have h2 := decB_len 18 n (Nat.lt_of_le_of_lt h (by decide))
 unfold digU
 rw [if_neg (by omega), foldU_dig _ _ (decB_dig n), valD_dec]
 rfl
theorem digV_int {x : Int} (h : -9223372036854775808 ≤ x ∧ x ≤ 9223372036854775807) : digV (intB x) = (x, true) := by
 unfold intB
 split
 ·rename_i hx
  show digU (decB x.natAbs) true = _
  rw [digU_dec _ (by omega)]
  unfold sgnV wrap64
  simp only [if_true]
  refine Prod.ext ?_ ?_
  ·simp only; omega
  ·simp only [decide_eq_true_eq]; omega
 ·rename_i hx
  have hne := decB_ne x.natAbs
  have hd := decB_dig x.natAbs
  have hu := digU_dec (n := x.natAbs) false (by omega)
  cases hk : decB x.natAbs with
  | nil => exact absurd hk hne
  | cons c r =>
   rw [hk] at hd hu
   have hc : ¬ c = 45 := by
    intro e
    have := hd c (by simp)
    subst e
    cases this
   unfold digV
   simp only
   rw [if_neg hc, hu]
   unfold sgnV wrap64
   simp only [Bool.false_eq_true, if_false]
   refine Prod.ext ?_ ?_
   ·simp only; omega
   ·simp only [decide_eq_true_eq]; omega
theorem valR_full {v : Vl} (h : VlOk v) : valR (worthB v) = (v, true) := by
 obtain ⟨num, fault⟩ := v
 obtain ⟨h1, h2, h3⟩ := h
 simp only at h1 h2 h3
 by_cases hf : fault = 0
 ·subst hf
  have hw : worthB ⟨num, 0⟩ = intB num := by unfold worthB; simp
  rw [hw]
  have hh : ¬ ((intB num).length = 2 ∧ (intB num).getD 0 0 = 33) := by
   rintro ⟨_, e⟩
   unfold intB at e
   split at e
   ·cases e
   ·have hd := decB_dig num.natAbs
    cases hk : decB num.natAbs with
    | nil => exact absurd hk (decB_ne _)
    | cons c r =>
     rw [hk] at hd e
     have h2 := hd c (by simp)
     have e2 : c = 33 := e
     subst e2
     cases h2
  unfold valR
  rw [if_neg hh, digV_int h1]
 ·have hn := h3 hf
  subst hn
  have : fault = 1 ∨ fault = 2 := by omega
  rcases this with rfl | rfl
  ·have : worthB ⟨0, 1⟩ = [33, 49] := by unfold worthB; simp [intB, decB_small]
   rw [this]
   rfl
  ·have : worthB ⟨0, 2⟩ = [33, 50] := by unfold worthB; simp [intB, decB_small]
   rw [this]
   rfl
theorem upTo58_cut : ∀ (a v : List UInt8), (∀ c ∈ a, c ≠ 58) → upTo58 (a ++ 58 :: v) = (a, some v)
 | [], v, h => rfl
 | c :: a, v, h => by
  rw [List.cons_append, upTo58, if_neg (h c (by simp)), upTo58_cut a v (fun x hx => h x (by simp [hx]))]
theorem dig_ne {c e : UInt8} (h : isDig c = true) (he : isDig e = false) : c ≠ e := by
 intro k
 subst k
 rw [he] at h
 cases h
theorem lineR_full {l : Ln} (h : LnOk l) : lineR (lineB l) = (l, true) := by
 obtain ⟨p, v⟩ := l
 obtain ⟨h1, h2, h3⟩ := h
 simp only at h1 h2 h3
 have hc : upTo58 (lineB ⟨p, v⟩) = (intB p, some (worthB v)) := by
  refine upTo58_cut _ _ ?_
  intro c hc
  simp only at hc
  unfold intB at hc
  rw [if_neg (by omega)] at hc
  exact dig_ne (decB_dig _ c hc) (by decide)
 unfold lineR
 rw [hc]
 simp only
 rw [digV_int (by omega), valR_full h3]
 simp [h1, h2]
theorem worth_no10 (v : Vl) : ∀ c ∈ worthB v, c ≠ 10 := by
 have hi : ∀ x : Int, ∀ c ∈ intB x, c ≠ 10 := by
  intro x c hc
  unfold intB at hc
  split at hc
  ·rcases List.mem_cons.mp hc with rfl | hc
   ·decide
   ·exact dig_ne (decB_dig _ c hc) (by decide)
  ·exact dig_ne (decB_dig _ c hc) (by decide)
 intro c hc
 unfold worthB at hc
 split at hc
 ·rcases List.mem_cons.mp hc with rfl | hc
  ·decide
  ·exact hi _ c hc
 ·exact hi _ c hc
theorem line_no10 {l : Ln} (h : LnOk l) : ∀ c ∈ lineB l, c ≠ 10 := by
 intro c hc
 unfold lineB at hc
 rcases List.mem_append.mp hc with hc | hc
 ·unfold intB at hc
  have := h.lo
  rw [if_neg (by omega)] at hc
  exact dig_ne (decB_dig _ c hc) (by decide)
 ·rcases List.mem_cons.mp hc with rfl | hc
  ·decide
  ·exact worth_no10 _ c hc
theorem cut_same {x : UInt8} : ∀ (a c b d : List UInt8), (∀ e ∈ a, e ≠ x) → (∀ e ∈ c, e ≠ x) → a ++ x :: b = c ++ x :: d → a = c ∧ b = d
 | [], [], b, d, _, _, h => by simp at h; exact ⟨rfl, h⟩
 | [], e :: c, b, d, _, hc, h => by
  simp only [List.nil_append, List.cons_append, List.cons.injEq] at h
  exact absurd h.1.symm (hc e (by simp))
 | e :: a, [], b, d, ha, _, h => by
  simp only [List.nil_append, List.cons_append, List.cons.injEq] at h
  exact absurd h.1 (ha e (by simp))
 | e :: a, f :: c, b, d, ha, hc, h => by
  simp only [List.cons_append, List.cons.injEq] at h
  obtain ⟨h1, h2⟩ := cut_same a c b d (fun q hq => ha q (by simp [hq])) (fun q hq => hc q (by simp [hq])) h.2
  exact ⟨by rw [h.1, h1], h2⟩
theorem refF_full : ∀ (r cur : List UInt8) (ls : List Ln), (∀ c ∈ cur, c ≠ 10) → cur ++ r = linesB ls → (∀ l ∈ ls, LnOk l) → refF cur r = some ls
 | [], cur, ls, hc, h, hl => by
  cases ls with
  | nil =>
   have : cur = [] := by simpa [linesB] using h
   subst this
   rfl
  | cons l ls =>
   exfalso
   rw [List.append_nil] at h
   exact hc 10 (by rw [h]; simp [linesB]) rfl
 | c :: r, cur, ls, hc, h, hl => by
  unfold refF
  by_cases h10 : c = 10
  ·subst h10
   rw [if_pos rfl]
   cases ls with
   | nil => exfalso; simp [linesB] at h
   | cons l ls =>
    obtain ⟨a1, a2⟩ := cut_same cur (lineB l) r (linesB ls) hc (line_no10 (hl l (by simp))) h
    subst a1
    rw [lineR_full (hl l (by simp)), if_pos rfl, refF_full r [] ls (by simp) (by simpa using a2) (fun x hx => hl x (by simp [hx]))]
    rfl
  ·rw [if_neg h10]
   refine refF_full r _ ls ?_ (by rw [← h]; simp) hl
   intro e he
   rcases List.mem_append.mp he with he | he
   ·exact hc e he
   ·rw [List.mem_singleton.mp he]; exact h10
theorem ref_read (t : List UInt8) : refF [] t = readP t := by
 cases h : refF [] t with
 | some ls => exact ((readP_some).mpr (refF_sound t [] ls h)).symm
 | none =>
  cases k : readP t with
  | none => rfl
  | some ls =>
   obtain ⟨a, b⟩ := readP_some.mp k
   rw [refF_full t [] ls (by simp) a b] at h
   cases h
end Go.Proofs.Ytdgmoiflahoihaa
