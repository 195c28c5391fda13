import Derived.RowKit
import Derived.Below
import Derived.Deep.RegionHeld

namespace Go.Proofs.YtdgmoiflahoihaaGreatDoor
open Go.RowKit
set_option linter.unusedSimpArgs false
set_option linter.unusedVariables false
def unlisted (n : Nat) (listed : Array Bool) : Nat := ((List.range n).filter fun i => !listed.getD i true).length
theorem unlisted_zero {n : Nat} {listed : Array Bool} (h : unlisted n listed = 0) (i : Nat) (hi : i < n) : listed.getD i true = true := by
 have h1 : (List.range n).filter (fun i => !listed.getD i true) = [] := List.length_eq_zero_iff.mp h
 have h2 := List.filter_eq_nil_iff.mp h1 i (List.mem_range.mpr hi)
 simpa using h2
theorem filter_less {α : Type} (p q : α → Bool) : ∀ (l : List α), (∀ x ∈ l, q x = true → p x = true) → (∃ x ∈ l, p x = true ∧ q x = false) → (l.filter q).length < (l.filter p).length
 | [], _, h => by obtain ⟨x, hx, _⟩ := h; cases hx
 | y :: l, hs, h => by
  have hle : (l.filter q).length ≤ (l.filter p).length := by
   have : ∀ (l : List α), (∀ x ∈ l, q x = true → p x = true) → (l.filter q).length ≤ (l.filter p).length := by
    intro l
    induction l with
    | nil => intro _; exact Nat.le_refl _
    | cons z l ih =>
     intro hs
     have hi := ih (fun x hx => hs x (List.mem_cons_of_mem _ hx))
     have hz := hs z List.mem_cons_self
     cases h1 : q z <;> cases h2 : p z <;> simp [h1, h2] at hz ⊢ <;> omega
   exact this l (fun x hx => hs x (List.mem_cons_of_mem _ hx))
  have hy := hs y List.mem_cons_self
  obtain ⟨x, hx, hp, hq⟩ := h
  rcases List.mem_cons.mp hx with rfl | hx
  ·rw [List.filter_cons, List.filter_cons, hp, hq]
   simp
   omega
  ·have hi := filter_less p q l (fun x hx => hs x (List.mem_cons_of_mem _ hx)) ⟨x, hx, hp, hq⟩
   cases h1 : q y <;> cases h2 : p y <;> simp [h1, h2] at hy ⊢ <;> omega
theorem unlisted_less {n : Nat} {listed : Array Bool} {i : Nat} (hi : i < n) (hn : listed.size = n) (h : listed.getD i true = false) : unlisted n (listed.setIfInBounds i true) < unlisted n listed := by
 unfold unlisted
 refine filter_less _ _ _ (fun x hx hq => ?_) ⟨i, List.mem_range.mpr hi, by rw [h]; rfl, ?_⟩
 ·by_cases e : i = x
  ·subst e; rw [h]; rfl
  ·rw [getD_set_ne _ e] at hq; exact hq
 ·rw [Array.getD_eq_getD_getElem?, Array.getElem?_setIfInBounds_self_of_lt (by omega)]
  rfl
theorem wpAny_inv {P : Program} {ops : Array Oper} {Q : Exit → Act → World → Prop} {md : Region.Mode} (I : Array Bool → Act → World → Prop)
  (hsz : ∀ listed a w, I listed a w → listed.size = ops.size)
  (hstep : ∀ listed a w, I listed a w → ∀ i ∈ Region.ready md ops listed, wpOp P ops Q i (I (listed.setIfInBounds i true)) a w)
  (hend : ∀ listed a w, I listed a w → Region.ready md ops listed = [] → Q .normal a w) :
  ∀ (fuel : Nat) (listed : Array Bool) (a : Act) (w : World), unlisted ops.size listed ≤ fuel → I listed a w → wpAny P md ops Q fuel listed a w
 | 0, listed, a, w, hf, hI => by
  have hr : Region.ready md ops listed = [] := by
   refine List.eq_nil_iff_forall_not_mem.mpr fun i hi => ?_
   obtain ⟨h1, o, ho, _⟩ := mem_ready.mp hi
   have := unlisted_zero (listed := listed) (n := ops.size) (by omega) i (Array.getElem?_eq_some_iff.1 ho).1
   rw [h1] at this
   cases this
  exact ⟨hr, hend listed a w hI hr⟩
 | fuel + 1, listed, a, w, hf, hI => by
  refine ⟨hend listed a w hI, fun i hi => ?_⟩
  obtain ⟨h1, o, ho, _⟩ := mem_ready.mp hi
  have hl := unlisted_less (Array.getElem?_eq_some_iff.1 ho).1 (hsz _ _ _ hI) h1
  exact wpOp_mono (fun a' w' hI' => wpAny_inv I hsz hstep hend fuel _ a' w' (by omega) hI') (hstep listed a w hI i hi)
structure Going (n : Nat) (dst : Nat → Nat) (Pd : Nat → Value → World → Prop) (u0 : List Value) (m : Nat) (w0 : World) (listed : Array Bool) (a : Act) (w : World) : Prop where
 size : listed.size = m
 low : Below w0.heap.size w0 w
 act : ∃ u : List Value, u.length = n ∧ a = ⟨u.toArray, []⟩ ∧ (∀ j, j < m → listed.getD j true = true → Pd j (u.getD (dst j) undef) w) ∧ ∀ s, (∀ j, j < m → dst j ≠ s) → u.getD s undef = u0.getD s undef
theorem region_promises {P : Program} {ops : Array Oper} {Q : Exit → Act → World → Prop} {id : Nat} {w0 : World} (n : Nat) (dst : Nat → Nat) (Pd : Nat → Value → World → Prop) (u0 : List Value) (hm : P.follows .mixedOrders = true)
  (hu0 : u0.length = n) (hdst : ∀ i j, i < ops.size → j < ops.size → dst i = dst j → i = j) (hlt : ∀ i, i < ops.size → dst i < n)
  (hplain : ∀ i o, ops[i]? = some o → o.guard = none ∧ o.dst = some (dst i) ∧ ∀ e ∈ o.after, e.on < i)
  (hmono : ∀ j v w w', Pd j v w → Below w.heap.size w w' → Pd j v w')
  (hstep : ∀ (u : List Value) (w : World), u.length = n → Below w0.heap.size w0 w → (∀ s, (∀ j, j < ops.size → dst j ≠ s) → u.getD s undef = u0.getD s undef) → ∀ i o, ops[i]? = some o → (∀ e ∈ o.after, Region.binds .any e = true → Pd e.on (u.getD (dst e.on) undef) w) →
   ∀ K : Act → World → Prop, (∀ v w', Below w.heap.size w w' → Pd i v w' → K ((⟨u.toArray, []⟩ : Act).put (some (dst i)) v) w') → o.wp P ⟨u.toArray, []⟩ w K Q)
  (hend : ∀ (u : List Value) (w : World), u.length = n → Below w0.heap.size w0 w → (∀ i, i < ops.size → Pd i (u.getD (dst i) undef) w) → Q .normal ⟨u.toArray, []⟩ w) :
  (Code.region id ops true).wp P Q ⟨u0.toArray, []⟩ w0 := by
 refine wp_region_any hm (wpAny_inv (Going n dst Pd u0 ops.size w0) (fun _ _ _ h => h.size) ?_ ?_ _ _ _ _ ?_ ?_)
 ·rintro listed a w ⟨hs, hb, u, hu, rfl, hP, hkp⟩ i hi
  obtain ⟨h1, o, ho, hdep⟩ := mem_ready.mp hi
  obtain ⟨hg, hd, hac⟩ := hplain i o ho
  have hil := (Array.getElem?_eq_some_iff.1 ho).1
  unfold wpOp
  rw [ho]
  have hw : Region.wanted o (yielded ops (⟨u.toArray, []⟩ : Act).tmps) = true := by simp [Region.wanted, hg]
  simp only [hw, if_true]
  left
  refine hstep u w hu hb hkp i o ho (fun e he hbind => hP e.on (by have := hac e he; omega) ?_) _ (fun v w' hb' hv => ?_)
  ·have := hdep e he hbind
   have hlt : e.on < listed.size := by have := hac e he; omega
   rw [Array.getD_eq_getD_getElem?, Array.getElem?_eq_getElem hlt] at this ⊢
   exact this
  ·refine ⟨by rw [Array.size_setIfInBounds]; exact hs, hb.trans (hb'.mono hb.size), u.set (dst i) v, by rw [List.length_set]; exact hu, ?_, fun j hj hl => ?_, fun s hs' => ?_⟩
   ·simp [Act.put]
   ·by_cases e : i = j
    ·subst e
     rw [List.getD_eq_getElem?_getD, List.getElem?_set_self (by rw [hu]; exact hlt i hil)]
     exact hv
    ·rw [getD_set_ne _ e] at hl
     rw [List.getD_eq_getElem?_getD, List.getElem?_set_ne (fun h => e (hdst i j hil hj h)), ← List.getD_eq_getElem?_getD]
     exact hmono _ _ _ _ (hP j hj hl) hb'
   ·rw [List.getD_eq_getElem?_getD, List.getElem?_set_ne (hs' i hil), ← List.getD_eq_getElem?_getD]
    exact hkp s hs'
 ·rintro listed a w ⟨hs, hb, u, hu, rfl, hP, hkp⟩ hr
  refine hend u w hu hb (fun i hi => hP i hi ?_)
  have key : ∀ k i, i < k → i < ops.size → listed.getD i true = true := by
   intro k
   induction k with
   | zero => intro i h; omega
   | succ k ih =>
    intro i h hi
    by_cases hk : listed.getD i true = true
    ·exact hk
    ·exfalso
     have hmem : i ∈ Region.ready .any ops listed := by
      refine mem_ready.mpr ⟨by simpa using hk, ops[i], Array.getElem?_eq_getElem hi, fun e he _ => ?_⟩
      have hac := (hplain i ops[i] (Array.getElem?_eq_getElem hi)).2.2 e he
      have := ih e.on (by omega) (by omega)
      rw [Array.getD_eq_getD_getElem?, Array.getElem?_eq_getElem (by omega)] at this ⊢
      exact this
     rw [hr] at hmem
     cases hmem
  exact key (i + 1) i (Nat.lt_succ_self _) hi
 ·unfold unlisted
  exact Nat.le_trans (List.length_filter_le _ _) (by simp)
 ·refine ⟨by simp, (Below.refl _ _).drew, u0, hu0, rfl, fun j hj hl => ?_, fun _ _ => rfl⟩
  rw [Array.getD_eq_getD_getElem?, Array.getElem?_eq_getElem (by simpa using hj)] at hl
  simp at hl
def AllFrom (R : Nat → Oper → Prop) : Nat → List Oper → Prop
 | _, [] => True
 | k, o :: r => R k o ∧ AllFrom R (k + 1) r
theorem allFrom_get {R : Nat → Oper → Prop} : ∀ {l : List Oper} {k : Nat}, AllFrom R k l → ∀ i o, l[i]? = some o → R (k + i) o
 | [], _, _, i, o, h => by simp at h
 | x :: r, k, hA, 0, o, h => by
  obtain rfl : x = o := by simpa using h
  exact hA.1
 | x :: r, k, hA, i + 1, o, h => by
  have := allFrom_get hA.2 i o (by simpa using h)
  rw [show k + (i + 1) = k + 1 + i by omega]
  exact this
def plainOps (n : Nat) (dst : Nat → Nat) : Nat → List Oper → Bool
 | _, [] => true
 | k, o :: r => o.guard.isNone && (o.dst == some (dst k)) && decide (dst k < n) && (o.after.toList.all fun e => decide (e.on < k)) && plainOps n dst (k + 1) r
theorem plainOps_get {n : Nat} {dst : Nat → Nat} : ∀ {l : List Oper} {k : Nat}, plainOps n dst k l = true → ∀ i o, l[i]? = some o → o.guard = none ∧ o.dst = some (dst (k + i)) ∧ dst (k + i) < n ∧ ∀ e ∈ o.after, e.on < k + i
 | [], _, _, i, o, h => by simp at h
 | x :: r, k, hA, i, o, h => by
  unfold plainOps at hA
  simp only [Bool.and_eq_true, decide_eq_true_eq, Option.isNone_iff_eq_none, beq_iff_eq, List.all_eq_true] at hA
  obtain ⟨⟨⟨⟨h1, h2⟩, h3⟩, h4⟩, h5⟩ := hA
  cases i with
  | zero =>
   obtain rfl : x = o := by simpa using h
   exact ⟨h1, h2, h3, fun e he => h4 e (by simpa using he)⟩
  | succ i =>
   have := plainOps_get h5 i o (by simpa using h)
   rw [show k + (i + 1) = k + 1 + i by omega]
   exact this
theorem region_each {P : Program} {l : List Oper} {Q : Exit → Act → World → Prop} {id : Nat} {w0 : World} (n : Nat) (dst : Nat → Nat) (Pd : Nat → Value → World → Prop) (u0 : List Value) (hm : P.follows .mixedOrders = true)
  (hu0 : u0.length = n) (hdst : ∀ i j, dst i = dst j → i < l.length → j < l.length → i = j) (hplain : plainOps n dst 0 l = true)
  (hmono : ∀ j v w w', Pd j v w → Below w.heap.size w w' → Pd j v w')
  (hend : ∀ (u : List Value) (w : World), u.length = n → Below w0.heap.size w0 w → (∀ i, i < l.length → Pd i (u.getD (dst i) undef) w) → Q .normal ⟨u.toArray, []⟩ w)
  (hstep : AllFrom (fun i o => ∀ (u : List Value) (w : World), u.length = n → Below w0.heap.size w0 w → (∀ s, (∀ j, j < l.length → dst j ≠ s) → u.getD s undef = u0.getD s undef) → (∀ e ∈ o.after.toList, Region.binds .any e = true → Pd e.on (u.getD (dst e.on) undef) w) →
   ∀ K : Act → World → Prop, Shut (∀ v w', Below w.heap.size w w' → Pd i v w' → K ((⟨u.toArray, []⟩ : Act).put (some (dst i)) v) w') → o.wp P ⟨u.toArray, []⟩ w K Q) 0 l) :
  (Code.region id l.toArray true).wp P Q ⟨u0.toArray, []⟩ w0 := by
 refine region_promises n dst Pd u0 hm hu0 (fun i j hi hj e => hdst i j e (by simpa using hi) (by simpa using hj)) (fun i hi => ?_) (fun i o ho => ?_) hmono (fun u w hu hb hkp i o ho hd K hK => ?_) (fun u w hu hb hP => hend u w hu hb (fun i hi => hP i (by simpa using hi)))
 ·have := (plainOps_get hplain i (l[i]'(by simpa using hi)) (List.getElem?_eq_getElem _)).2.2.1
  rwa [Nat.zero_add] at this
 ·have := plainOps_get hplain i o (by simpa using ho)
  rw [Nat.zero_add] at this
  exact ⟨this.1, this.2.1, this.2.2.2⟩
 ·have := allFrom_get hstep i o (by simpa using ho)
  rw [Nat.zero_add] at this
  exact this u w hu hb (fun s hs => hkp s (fun j hj => hs j (by simpa using hj))) (fun e he hbd => hd e (by simpa using he) hbd) K hK
end Go.Proofs.YtdgmoiflahoihaaGreatDoor
