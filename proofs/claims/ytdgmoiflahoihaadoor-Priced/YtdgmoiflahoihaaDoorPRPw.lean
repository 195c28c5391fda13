import Derived.Test.YtdgmoiflahoihaaDoorBLPw

namespace Go.Proofs.YtdgmoiflahoihaaDoor
open Go.RowKit
set_option linter.unusedSimpArgs false
set_option linter.unusedVariables false
def priceT : List UInt8 := [63, 113, 58, 45, 59, 63, 112, 58, 45, 59, 63, 107, 58, 67, 59, 116, 61, 113, 42, 112, 59, 40, 57, 60, 113, 41, 123, 116, 61, 116, 45, 116, 47, 49, 48, 59, 125, 62, 45, 116, 59, 109, 61, 116, 45, 113, 42, 107, 59, 62, 67, 32, 109, 59, 40, 109, 60, 48, 41, 123, 62, 67, 32, 48, 45, 109, 59, 125, 62, 45, 113, 59]
set_option maxRecDepth 100000 in
theorem price_check : (checkP priceT).1 = 0 := by kernel_rfl
def priceH : List Hd := [⟨true, 1, 16, 0⟩, ⟨true, 6, 15, 0⟩, ⟨true, 11, 10, 4⟩]
set_option maxRecDepth 100000 in
theorem price_heads : (parseH priceT).2 = priceH := by kernel_rfl
def pr1 : Core := ⟨0, 15, 19, 0, 0, [⟨2, 16⟩, ⟨2, 15⟩, ⟨6, 0⟩]⟩
def pr2 : Core := ⟨3, 21, 0, 0, 0, [⟨1, 9⟩, ⟨2, 16⟩, ⟨9, 0⟩]⟩
def pr2a : Core := ⟨0, 27, 19, 0, 0, [⟨2, 19⟩, ⟨2, 19⟩, ⟨1, 10⟩, ⟨7, 0⟩, ⟨5, 0⟩]⟩
def pr3 : Core := ⟨2, 37, 0, 0, 0, [⟨2, 19⟩]⟩
def pr4 : Core := ⟨0, 41, 12, 0, 0, [⟨2, 19⟩, ⟨2, 16⟩, ⟨2, 10⟩, ⟨6, 0⟩, ⟨5, 0⟩]⟩
def pr5 : Core := ⟨2, 49, 0, 4, 0, [⟨2, 12⟩]⟩
def pr6 : Core := ⟨3, 54, 0, 0, 0, [⟨2, 12⟩, ⟨1, 0⟩, ⟨9, 0⟩]⟩
def pr6a : Core := ⟨2, 60, 0, 4, 0, [⟨1, 0⟩, ⟨2, 12⟩, ⟨5, 0⟩]⟩
def pr7 : Core := ⟨2, 68, 0, 0, 0, [⟨2, 16⟩]⟩
def priceR : List (RT 9) := [(pr1, [], []), (pr2, [(pr2a, [], [])], []), (pr3, [], []), (pr4, [], []), (pr5, [], []), (pr6, [(pr6a, [], [])], []), (pr7, [], [])]
set_option maxRecDepth 100000 in
theorem price_rules : (parseR priceT).2 = priceR := by kernel_rfl
def prV (q p k t m : Int) : List Vl := [vl0, vl0, vl0, vl0, vl0, vl0, vl0, vl0, vl0, vl0, ⟨k, 0⟩, vl0, ⟨m, 0⟩, vl0, vl0, ⟨p, 0⟩, ⟨q, 0⟩, vl0, vl0, ⟨t, 0⟩, vl0, vl0, vl0, vl0, vl0, vl0]
theorem pr_fill (q p k : Int) : fillV priceH [q, p, k] vals0 = prV q p k 0 0 := by rfl
theorem pr_fits {x : Int} (h1 : -1000000000000 ≤ x) (h2 : x ≤ 1000000000000) : vlOf x = ⟨x, 0⟩ := vlOf_fits (by omega)
theorem pr_s1 (q p k : Int) (N : List Nt) (h1 : -1000000000000 ≤ q * p) (h2 : q * p ≤ 1000000000000) : doT (doF 8) (prV q p k 0 0, N) (pr1, [], []) = (prV q p k (q * p) 0, N) := by
 show ((prV q p k 0 0).set 19 (vlOf (q * p)), N) = _
 rw [pr_fits h1 h2]
 rfl
theorem pr_s2 (q p k t : Int) (N : List Nt) (h1 : 0 ≤ t) (h2 : t ≤ 1000000000000) : doT (doF 8) (prV q p k t 0, N) (pr2, [(pr2a, [], [])], []) = (prV q p k (if 9 < q then t - t / 10 else t) 0, N) := by
 have hd : t.tdiv 10 = t / 10 := Int.tdiv_eq_ediv_of_nonneg h1
 by_cases h : 9 < q
 ·have hv : valueV (prV q p k t 0) pr2.parts = ⟨1, 0⟩ := by
   show Vl.mk (if 9 < q then 1 else 0) 0 = _
   rw [if_pos h]
  have e : doT (doF 8) (prV q p k t 0, N) (pr2, [(pr2a, [], [])], []) = (if (valueV (prV q p k t 0) pr2.parts).fault ≠ 0 then (prV q p k t 0, N) else if (valueV (prV q p k t 0) pr2.parts).num ≠ 0 then doT (doF 7) (prV q p k t 0, N) (pr2a, [], []) else (prV q p k t 0, N)) := by rfl
  rw [e, hv, if_neg (by simp), if_pos (by simp), if_pos h]
  have e2 : doT (doF 7) (prV q p k t 0, N) (pr2a, [], []) = ((prV q p k t 0).set 19 (opV 5 ⟨t, 0⟩ (divV t 10)), N) := by rfl
  rw [e2]
  unfold divV
  rw [if_neg (by decide), hd, pr_fits (by omega) (by omega)]
  show ((prV q p k t 0).set 19 (vlOf (t - t / 10)), N) = _
  rw [pr_fits (by omega) (by omega)]
  rfl
 ·have hv : valueV (prV q p k t 0) pr2.parts = ⟨0, 0⟩ := by
   show Vl.mk (if 9 < q then 1 else 0) 0 = _
   rw [if_neg h]
  have e : doT (doF 8) (prV q p k t 0, N) (pr2, [(pr2a, [], [])], []) = (if (valueV (prV q p k t 0) pr2.parts).fault ≠ 0 then (prV q p k t 0, N) else if (valueV (prV q p k t 0) pr2.parts).num ≠ 0 then doT (doF 7) (prV q p k t 0, N) (pr2a, [], []) else (prV q p k t 0, N)) := by rfl
  rw [e, hv, if_neg (by simp), if_neg (by simp), if_neg h]
theorem pr_s4 (q p k t : Int) (N : List Nt) (h1 : -1000000000000 ≤ q * k) (h2 : q * k ≤ 1000000000000) (h3 : -1000000000000 ≤ t - q * k) (h4 : t - q * k ≤ 1000000000000) : doT (doF 8) (prV q p k t 0, N) (pr4, [], []) = (prV q p k t (t - q * k), N) := by
 have e : doT (doF 8) (prV q p k t 0, N) (pr4, [], []) = ((prV q p k t 0).set 12 (opV 5 ⟨t, 0⟩ (vlOf (q * k))), N) := by rfl
 rw [e, pr_fits h1 h2]
 show ((prV q p k t 0).set 12 (vlOf (t - q * k)), N) = _
 rw [pr_fits h3 h4]
 rfl
theorem pr_s6 (q p k t m : Int) (N : List Nt) (h1 : -1000000000000 ≤ m) (h2 : m ≤ 1000000000000) : doT (doF 8) (prV q p k t m, N) (pr6, [(pr6a, [], [])], []) = (prV q p k t m, N ++ (if m < 0 then [⟨0, 60, 4, ⟨-m, 0⟩⟩] else [])) := by
 have e : doT (doF 8) (prV q p k t m, N) (pr6, [(pr6a, [], [])], []) = (if (valueV (prV q p k t m) pr6.parts).fault ≠ 0 then (prV q p k t m, N) else if (valueV (prV q p k t m) pr6.parts).num ≠ 0 then doT (doF 7) (prV q p k t m, N) (pr6a, [], []) else (prV q p k t m, N)) := by rfl
 by_cases h : m < 0
 ·have hv : valueV (prV q p k t m) pr6.parts = ⟨1, 0⟩ := by
   show Vl.mk (if m < 0 then 1 else 0) 0 = _
   rw [if_pos h]
  rw [e, hv, if_neg (by simp), if_pos (by simp), if_pos h]
  show (prV q p k t m, N ++ [Nt.mk 0 60 4 (vlOf (0 - m))]) = _
  rw [pr_fits (by omega) (by omega), Int.zero_sub]
 ·have hv : valueV (prV q p k t m) pr6.parts = ⟨0, 0⟩ := by
   show Vl.mk (if m < 0 then 1 else 0) 0 = _
   rw [if_neg h]
  rw [e, hv, if_neg (by simp), if_neg (by simp), if_neg h, List.append_nil]
def priceN (q t m : Int) : List Nt := [⟨0, 37, 0, ⟨t, 0⟩⟩, ⟨0, 49, 4, ⟨m, 0⟩⟩] ++ (if m < 0 then [⟨0, 60, 4, ⟨-m, 0⟩⟩] else []) ++ [⟨0, 68, 0, ⟨q, 0⟩⟩]
theorem price_run (q p k t m : Int) (hq : 0 ≤ q * p ∧ q * p ≤ 100000000) (hk : 0 ≤ q * k ∧ q * k ≤ 100000000) (ht : t = if 9 < q then q * p - q * p / 10 else q * p) (hm : m = t - q * k) : runP priceT [q, p, k] = (0, priceN q t m) := by
 have htb : 0 ≤ t ∧ t ≤ 100000000 := by rw [ht]; split <;> omega
 unfold runP
 rw [if_neg (by rw [price_check]; simp), price_heads, price_rules, if_neg (by simp [countF, priceH]), pr_fill]
 have e : (doF 9 (prV q p k 0 0, []) priceR).2 = (doT (doF 8) (doT (doF 8) (doT (doF 8) (doT (doF 8) (doT (doF 8) (doT (doF 8) (doT (doF 8) (prV q p k 0 0, []) (pr1, [], [])) (pr2, [(pr2a, [], [])], [])) (pr3, [], [])) (pr4, [], [])) (pr5, [], [])) (pr6, [(pr6a, [], [])], [])) (pr7, [], [])).2 := by rfl
 rw [e, pr_s1 q p k [] (by omega) (by omega), pr_s2 q p k (q * p) [] (by omega) (by omega), ← ht]
 have e3 : doT (doF 8) (prV q p k t 0, []) (pr3, [], []) = (prV q p k t 0, [⟨0, 37, 0, ⟨t, 0⟩⟩]) := by rfl
 rw [e3, pr_s4 q p k t _ (by omega) (by omega) (by omega) (by omega), ← hm]
 have e5 : doT (doF 8) (prV q p k t m, [⟨0, 37, 0, ⟨t, 0⟩⟩]) (pr5, [], []) = (prV q p k t m, [⟨0, 37, 0, ⟨t, 0⟩⟩, ⟨0, 49, 4, ⟨m, 0⟩⟩]) := by rfl
 rw [e5, pr_s6 q p k t m _ (by omega) (by omega)]
 rfl
theorem price_bill (r q t m : Int) (h4 : bits .or .i64 0 r = r) :
  billB r (priceN q t m) = noteB ⟨0, 37, 0, ⟨t, 0⟩⟩ ++ (if (bits .or .i64 4 r == r) = true then noteB ⟨0, 49, 4, ⟨m, 0⟩⟩ ++ (if m < 0 then noteB ⟨0, 60, 4, ⟨-m, 0⟩⟩ else []) else []) ++ noteB ⟨0, 68, 0, ⟨q, 0⟩⟩ := by
 have s0 : ∀ p v, shownN r ⟨0, p, 0, v⟩ = true := by
  intro p v
  show ((0 : Int) == 0 && (bits .or .i64 ((0 : Nat) : Int) r == r)) = true
  rw [show ((0 : Nat) : Int) = 0 from rfl, h4]
  simp
 have s4 : ∀ p v, shownN r ⟨0, p, 4, v⟩ = (bits .or .i64 4 r == r) := by
  intro p v
  show ((0 : Int) == 0 && (bits .or .i64 ((4 : Nat) : Int) r == r)) = _
  rw [show ((4 : Nat) : Int) = 4 from rfl]
  simp
 unfold priceN
 by_cases hm : m < 0
 ·simp only [if_pos hm, List.cons_append, List.nil_append, List.append_nil, billB, s0, s4, if_true]
  cases (bits .or .i64 4 r == r) <;> simp
 ·simp only [if_neg hm, List.cons_append, List.nil_append, List.append_nil, billB, s0, s4, if_true]
  cases (bits .or .i64 4 r == r) <;> simp
end Go.Proofs.YtdgmoiflahoihaaDoor
