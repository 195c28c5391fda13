import Derived.Test.YtdgmoiflahoihabPCheckx
import Derived.Test.YtdgmoiflahoihabRRunx

namespace Go.Proofs.Ytdgmoiflahoihab
set_option linter.unusedSimpArgs false
set_option linter.unusedVariables false
theorem numF_in (t : List UInt8) : ∀ (n : Nat) (r : Rd) (v B : Int), 0 ≤ v → v < B → 0 ≤ (Rd.numF t n r v).2 ∧ (Rd.numF t n r v).2 < B * 10 ^ n
 | 0, r, v, B, h0, h1 => ⟨h0, by simpa [Rd.numF] using h1⟩
 | n + 1, r, v, B, h0, h1 => by
  have hp : (0 : Int) < 10 ^ n := Int.pow_pos (by decide)
  have e : B * 10 ^ (n + 1) = B * 10 * 10 ^ n := by rw [Int.pow_succ, Int.mul_assoc, Int.mul_comm (10 ^ n) 10]
  rw [e]
  unfold Rd.numF
  split
  ·have d := digit_le t r
   exact numF_in t n _ _ (B * 10) (by omega) (by omega)
  ·refine ⟨h0, ?_⟩
   have h2 : B * 10 * 1 ≤ B * 10 * 10 ^ n := Int.mul_le_mul_of_nonneg_left (by omega) (by omega)
   simp only
   omega
theorem number_in (t : List UInt8) (r : Rd) : -9223372036854775808 ≤ (r.number t).2 ∧ (r.number t).2 ≤ 9223372036854775807 := by
 have d := digit_le t r
 have h := numF_in t 17 (r.takeOne t 48 57).1 (r.takeOne t 48 57).2 10 d.1 (by omega)
 unfold Rd.number
 have e : (10 : Int) * 10 ^ 17 = 1000000000000000000 := by decide
 rw [e] at h
 omega
theorem takeOne_in (t : List UInt8) (r : Rd) (a b : UInt8) : -9223372036854775808 ≤ (r.takeOne t a b).2 ∧ (r.takeOne t a b).2 ≤ 9223372036854775807 := by
 unfold Rd.takeOne
 split
 ·have h1 := (t.getD r.pos 0).toNat_lt
  have h2 := a.toNat_lt
  constructor <;> simp only <;> omega
 ·simp
def PN (x : RP) : Prop := ∀ p ∈ x.2, PtNum p
theorem pn_app {r r' : Rd} {l m : List Pt} (h : PN (r, l)) (k : ∀ p ∈ m, PtNum p) : PN (r', l ++ m) := by
 intro p hp
 rcases List.mem_append.mp hp with e | e
 ·exact h p e
 ·exact k p e
theorem pn_one {r r' : Rd} {l : List Pt} (h : PN (r, l)) (op : Int) {v : Int} (hv : -9223372036854775808 ≤ v ∧ v ≤ 9223372036854775807) : PN (r', l ++ [⟨op, v⟩]) :=
 pn_app h (by intro p hp; simp at hp; subst hp; exact hv)
theorem plainU_pn {t : List UInt8} {cmp : RP → RP} (hc : ∀ x, PN x → PN (cmp x)) {x : RP} (h : PN x) : PN (plainU t cmp x) := by
 unfold plainU
 split
 ·exact pn_one h 1 (number_in t x.1)
 split
 ·exact pn_one h 2 (takeOne_in t x.1 97 122)
 split
 ·exact hc _ h
 ·exact h
theorem unitU_pn {t : List UInt8} {cmp : RP → RP} (hc : ∀ x, PN x → PN (cmp x)) {x : RP} (h : PN x) : PN (unitU t cmp x) := by
 unfold unitU
 have k := plainU_pn (t := t) hc (x := ((minusF t (t.length + 1) x.1).1, x.2)) h
 refine pn_app (r := (plainU t cmp ((minusF t (t.length + 1) x.1).1, x.2)).1) k ?_
 intro p hp
 have := List.eq_of_mem_replicate hp
 subst this
 exact ⟨by decide, by decide⟩
theorem prodL_pn {t : List UInt8} {cmp : RP → RP} (hc : ∀ x, PN x → PN (cmp x)) : ∀ (n : Nat) (x : RP), PN x → PN (prodL t cmp n x)
 | 0, x, h => h
 | n + 1, x, h => by
  unfold prodL
  simp only
  split
  ·exact h
  ·refine prodL_pn hc n _ ?_
   exact pn_one (r := (unitU t cmp ((x.1.prodOper t).1, x.2)).1) (unitU_pn hc (x := ((x.1.prodOper t).1, x.2)) h) _ (by decide)
theorem prodU_pn {t : List UInt8} {cmp : RP → RP} (hc : ∀ x, PN x → PN (cmp x)) {x : RP} (h : PN x) : PN (prodU t cmp x) := prodL_pn hc _ _ (unitU_pn hc h)
theorem sumL_pn {t : List UInt8} {cmp : RP → RP} (hc : ∀ x, PN x → PN (cmp x)) : ∀ (n : Nat) (x : RP), PN x → PN (sumL t cmp n x)
 | 0, x, h => h
 | n + 1, x, h => by
  unfold sumL
  simp only
  split
  ·exact h
  ·refine sumL_pn hc n _ ?_
   exact pn_one (r := (prodU t cmp ((x.1.oper t 43 4 45 5).1, x.2)).1) (prodU_pn hc (x := ((x.1.oper t 43 4 45 5).1, x.2)) h) _ (by decide)
theorem sumU_pn {t : List UInt8} {cmp : RP → RP} (hc : ∀ x, PN x → PN (cmp x)) {x : RP} (h : PN x) : PN (sumU t cmp x) := sumL_pn hc _ _ (prodU_pn hc h)
theorem cmpU_pn {t : List UInt8} {cmp : RP → RP} (hc : ∀ x, PN x → PN (cmp x)) {x : RP} (h : PN x) : PN (cmpU t cmp x) := by
 unfold cmpU
 simp only
 split
 ·exact sumU_pn hc h
 ·exact pn_one (r := (sumU t cmp (((sumU t cmp x).1.oper t 60 9 61 10).1, (sumU t cmp x).2)).1) (sumU_pn hc (x := (((sumU t cmp x).1.oper t 60 9 61 10).1, (sumU t cmp x).2)) (sumU_pn hc h)) _ (by decide)
theorem cmpF_pn (t : List UInt8) : ∀ (n : Nat) (x : RP), PN x → PN (cmpF t n x)
 | 0, x, h => h
 | n + 1, x, h => cmpU_pn (fun y hy => cmpF_pn t n y hy) h
theorem expr_pn (t : List UInt8) (r : Rd) : ∀ p ∈ (exprU t r).2, PtNum p := by
 have h : PN (cmpF t 10 (r, [])) := cmpF_pn t 10 (r, []) (by intro p hp; simp at hp)
 unfold exprU
 exact h
theorem ruleU_pn {α : Type} {t : List UInt8} {blk : Rd → Rd × List α} {ok : List α → Prop} (hn : ok []) (hb : ∀ r, ok (blk r).2) (r : Rd) : (∀ p ∈ (ruleU t blk r).2.1.parts, PtNum p) ∧ ok (ruleU t blk r).2.2.1 ∧ ok (ruleU t blk r).2.2.2 := by
 unfold ruleU
 split
 ·exact ⟨expr_pn t _, hn, hn⟩
 split
 ·exact ⟨expr_pn t _, hn, hn⟩
 split
 ·exact ⟨expr_pn t _, hn, hn⟩
 split
 ·simp only
  split
  ·exact ⟨expr_pn t _, hb _, hb _⟩
  ·exact ⟨expr_pn t _, hb _, hn⟩
 split
 ·exact ⟨by intro p hp; simp at hp, hb _, hn⟩
 ·exact ⟨by intro p hp; simp [Core.none] at hp, hn, hn⟩
theorem rulesL_pn {α : Type} {rule : Rd → Rd × α} {halt : Rd → Bool} {one : α → Prop} (hr : ∀ r, one (rule r).2) : ∀ (k : Nat) (r : Rd), ∀ q ∈ (rulesL rule halt k r).2, one q
 | 0, r => by intro q hq; simp [rulesL] at hq
 | k + 1, r => by
  unfold rulesL
  split
  ·intro q hq; simp at hq
  ·intro q hq
   rcases List.mem_cons.mp hq with e | e
   ·rw [e]; exact hr r
   ·exact rulesL_pn hr k _ q e
theorem nums_nil : ∀ n, NumsOk n []
 | 0 => trivial
 | n + 1 => by intro q hq; cases hq
theorem blockF_pn (t : List UInt8) : ∀ (n : Nat) (r : Rd), NumsOk n (blockF t n r).2
 | 0, r => trivial
 | n + 1, r => by
  show NumsOk (n + 1) (blockU t (α := RT (n + 1)) (fun r => ruleU t (blockF t n) r) r).2
  unfold blockU
  exact rulesL_pn (α := RT (n + 1)) (one := fun q : RT (n + 1) => (∀ p ∈ (show Core × List (RT n) × List (RT n) from q).1.parts, PtNum p) ∧ NumsOk n (show Core × List (RT n) × List (RT n) from q).2.1 ∧ NumsOk n (show Core × List (RT n) × List (RT n) from q).2.2) (fun r => ruleU_pn (nums_nil n) (fun r => blockF_pn t n r) r) _ _
theorem parse_nums (t : List UInt8) : NumsOk 9 (parseR t).2 := by
 unfold parseR
 exact rulesL_pn (α := RT 9) (one := fun q : RT 9 => (∀ p ∈ (show Core × List (RT 8) × List (RT 8) from q).1.parts, PtNum p) ∧ NumsOk 8 (show Core × List (RT 8) × List (RT 8) from q).2.1 ∧ NumsOk 8 (show Core × List (RT 8) × List (RT 8) from q).2.2) (fun r => ruleU_pn (nums_nil 8) (fun r => blockF_pn t 8 r) r) _ _
end Go.Proofs.Ytdgmoiflahoihab
