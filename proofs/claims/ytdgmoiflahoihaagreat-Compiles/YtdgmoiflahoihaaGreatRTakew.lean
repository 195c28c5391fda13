import Derived.Test.YtdgmoiflahoihaaGreatRDow
import Derived.RegionTactic
import Derived.Test.YtdgmoiflahoihaaGreatPCheckw
import Derived.Test.YtdgmoiflahoihaaGreatPFlw
import Derived.Test.YtdgmoiflahoihaaGreatRValw

namespace Go.Proofs.YtdgmoiflahoihaaGreat
open Go.RowKit
set_option linter.unusedSimpArgs false
set_option linter.unusedVariables false
def countF (l : List Hd) : Nat := (l.filter (·.field)).length
def fillV : List Hd → List Int → List Vl → List Vl
 | [], _, vals => vals
 | h :: r, fs, vals => if h.field then (match fs with | [] => fillV r [] vals | f :: g => fillV r g (vals.set h.name.toNat ⟨f, 0⟩)) else fillV r fs vals
theorem countF_cons (h : Hd) (r : List Hd) : countF (h :: r) = (if h.field then 1 else 0) + countF r := by
 unfold countF
 cases e : h.field <;> simp [e]; omega
structure IntsAt (w : World) (P : Nat → Prop) (v : Value) (l : List Int) : Prop where
 here : ∃ ao g cap, v = .slice ao l.length cap ∧ ∀ i, ∀ hi : i < l.length, ao = some ⟨g, 0, none⟩ ∧ P g ∧ w.cell? ⟨g, i, none⟩ = some (.int .i64 l[i])
theorem IntsAt.frame {w w' : World} {P Q : Nat → Prop} {v : Value} {l : List Int} (h : IntsAt w P v l) (hk : ∀ k, P k → k < w.heap.size → Q k ∧ w'.heap[k]? = w.heap[k]?) : IntsAt w' Q v l := by
 obtain ⟨ao, g, cap, hv, hc⟩ := h.here
 refine ⟨ao, g, cap, hv, fun i hi => ?_⟩
 obtain ⟨a, b, c⟩ := hc i hi
 have hlt := World.block_lt_of_cell? w _ c
 obtain ⟨q1, q2⟩ := hk g b hlt
 exact ⟨a, q1, (World.cell?_of_block (a := ⟨g, i, none⟩) q2).trans c⟩
theorem fillV_skip {h : Hd} {r : List Hd} {fs : List Int} {vals : List Vl} (hf : h.field = false) : fillV (h :: r) fs vals = fillV r fs vals := by
 conv => lhs; unfold fillV
 rw [if_neg (by simp [hf])]
theorem fillV_none {h : Hd} {r : List Hd} {vals : List Vl} : fillV (h :: r) [] vals = fillV r [] vals := by
 cases hf : h.field
 ·exact fillV_skip hf
 ·conv => lhs; unfold fillV
  rw [if_pos hf]
theorem fillV_some {h : Hd} {r : List Hd} {f : Int} {fs : List Int} {vals : List Vl} (hf : h.field = true) : fillV (h :: r) (f :: fs) vals = fillV r fs (vals.set h.name.toNat ⟨f, 0⟩) := by
 conv => lhs; unfold fillV
 rw [if_pos hf]
theorem num_ok {f : Int} (h : -9223372036854775808 ≤ f ∧ f ≤ 9223372036854775807) : VlOk ⟨f, 0⟩ := ⟨h, by simp, by simp⟩
theorem fillV_ok : ∀ (hs : List Hd) (fs : List Int) (vals : List Vl), (∀ x ∈ fs, -9223372036854775808 ≤ x ∧ x ≤ 9223372036854775807) → vals.length = 26 → (∀ v ∈ vals, VlOk v) → (fillV hs fs vals).length = 26 ∧ ∀ v ∈ fillV hs fs vals, VlOk v
 | [], fs, vals, _, hl, ho => ⟨hl, ho⟩
 | h :: r, fs, vals, hf, hl, ho => by
  cases e : h.field
  ·rw [fillV_skip e]; exact fillV_ok r fs vals hf hl ho
  ·cases fs with
   | nil => rw [fillV_none]; exact fillV_ok r [] vals hf hl ho
   | cons f g =>
    rw [fillV_some e]
    have k := StOk.set (s := (vals, [])) ⟨hl, ho⟩ (num_ok (hf f (by simp))) h.name.toNat []
    exact fillV_ok r g _ (fun x hx => hf x (by simp [hx])) k.len k.ok
end Go.Proofs.YtdgmoiflahoihaaGreat
namespace Go.Proofs.YtdgmoiflahoihaaGreat
open Go.RowKit
set_option linter.unusedSimpArgs false
set_option linter.unusedVariables false
def vals0 : List Vl := List.replicate 26 vl0
def runP (t : List UInt8) (fs : List Int) : Int × List Nt :=
 if (checkP t).1 ≠ 0 then ((checkP t).1, [])
 else if fs.length ≠ countF (parseH t).2 then (6, [])
 else (0, (doF 9 (fillV (parseH t).2 fs vals0, []) (parseR t).2).2)
theorem checkP_ok {t : List UInt8} (h : (checkP t).1 = 0) : t.length ≤ 400 ∧ (parseR t).1.bad = false ∧ twiceL [] (parseH t).2 = none ∧ ¬ 5000 < workS 9 (parseR t).2 ∧ cleanF (labelsP (parseH t).2 (parseR t).2) 9 0 (parseR t).2 = none := by
 unfold checkP at h
 split at h
 ·exact absurd h (by simp)
 rename_i h1
 split at h
 ·exact absurd h (by simp)
 rename_i h2
 split at h
 ·exact absurd h (by simp)
 rename_i h3
 split at h
 ·exact absurd h (by simp)
 rename_i h4
 split at h
 ·exact absurd h (by simp)
 rename_i h5
 exact ⟨by omega, by simpa using h2, h3, h4, h5⟩
theorem text_full (s : ByteArray) (w : World) (hs : s.size ≤ maxLen) (hpo : s.size ≤ 400 → (parseR s.data.toList).1.bad = false → ParseOk s.data.toList) (h0 : (checkP s.data.toList).1 = 0) :
  Calls Tryz.prog 31 #[.string s] w fun e w' => ∃ vh vr, e = .returned (.agg (ok30 vh vr (labelsP (parseH s.data.toList).2 (parseR s.data.toList).2)).toArray) ∧ Below w.heap.size w w' ∧ HeadsV w' (fun k => w.heap.size ≤ k) vh (parseH s.data.toList).2 ∧ RulesV 9 w' (fun k => w.heap.size ≤ k) vr (parseR s.data.toList).2 := by
 obtain ⟨h1, h2, h3, h4, h5⟩ := checkP_ok h0
 have hsl : s.data.toList.length = s.size := by simp
 exact text_ok s w (by omega) (hpo (by omega) h2) h2 h3 h4 h5
theorem ownsRow_base {w : World} {base base' size n : Nat} {e : TypeId} {v : Value} {xs : List Value} (h : w.ownsRow base e size v n xs) (hb : base' ≤ base) : w.ownsRow base' e size v n xs := by
 refine ⟨h.1, ?_⟩
 rcases h.2 with h0 | ⟨g, cap, cur, h1, h2, h3⟩
 ·exact .inl h0
 ·exact .inr ⟨g, cap, cur, h1, by omega, h3⟩
def st53 : List Value := vlCells vals0 ++ [.slice none 0 0]
theorem st53_lit : #[.int .i64 0, .int .i64 0, .int .i64 0, .int .i64 0, .int .i64 0, .int .i64 0, .int .i64 0, .int .i64 0, .int .i64 0, .int .i64 0, .int .i64 0, .int .i64 0, .int .i64 0, .int .i64 0, .int .i64 0, .int .i64 0, .int .i64 0, .int .i64 0, .int .i64 0, .int .i64 0, .int .i64 0, .int .i64 0, .int .i64 0, .int .i64 0, .int .i64 0, .int .i64 0, .int .i64 0, .int .i64 0, .int .i64 0, .int .i64 0, .int .i64 0, .int .i64 0, .int .i64 0, .int .i64 0, .int .i64 0, .int .i64 0, .int .i64 0, .int .i64 0, .int .i64 0, .int .i64 0, .int .i64 0, .int .i64 0, .int .i64 0, .int .i64 0, .int .i64 0, .int .i64 0, .int .i64 0, .int .i64 0, .int .i64 0, .int .i64 0, .int .i64 0, .int .i64 0, .slice none 0 0] = st53.toArray := rfl
theorem state_new (w : World) (t : TypeId) : StateAt (w.alloc (.cells st53.toArray t)) w.heap.size (fun _ => False) (vals0, []) := by
 have hh := heap_alloc_new w (.cells st53.toArray t)
 refine ⟨fun k hk => ?_, ⟨.slice none 0 0, ?_, World.ownsRow_nil .., fun k hk => by cases hk⟩, fun o => by unfold World.frozen?; rw [hh]; simp⟩
 ·obtain ⟨d0, d1⟩ := vlCells_at vals0 k (by unfold vals0; simpa using hk)
  have e : vals0.getD k vl0 = vals0[k]'(by unfold vals0; simpa using hk) := by rw [List.getD_eq_getElem?_getD, List.getElem?_eq_getElem (by unfold vals0; simpa using hk)]; rfl
  have hl : (vlCells vals0).length = 52 := by rw [vlCells_len]; rfl
  simp only
  rw [e]
  constructor
  ·rw [cell_of_row _ _ _ _ _ _ hh]
   unfold st53
   rw [List.getElem?_toArray, List.getElem?_append_left (by omega)]
   exact d0
  ·rw [cell_of_row _ _ _ _ _ _ hh]
   unfold st53
   rw [List.getElem?_toArray, List.getElem?_append_left (by omega)]
   exact d1
 ·rw [cell_of_row _ _ _ _ _ _ hh]
  rfl
def RunPost (w : World) (r : Int × List Nt) (x : Ending) (w' : World) : Prop :=
 (∃ vn, x = .returned (.tuple #[vn, .int .i64 r.1]) ∧ (r.1 ≠ 0 → vn = .slice none 0 0) ∧ w'.ownsRow w.heap.size 57 5 vn r.2.length (ntCells r.2)) ∧ Below w.heap.size w w'
end Go.Proofs.YtdgmoiflahoihaaGreat
namespace Go.Proofs.YtdgmoiflahoihaaGreat
set_option linter.unusedSimpArgs false
set_option linter.unusedVariables false
theorem numF_in (t : List UInt8) : ∀ (n : Nat) (r : Rd) (v B : Int), 0 ≤ v → v < B → 0 ≤ (Rd.numF t n r v).2 ∧ (Rd.numF t n r v).2 < B * 10 ^ n
 | 0, r, v, B, h0, h1 => ⟨h0, by simpa [Rd.numF] using h1⟩
 | n + 1, r, v, B, h0, h1 => by
  have hp : (0 : Int) < 10 ^ n := Int.pow_pos (by decide)
  have e : B * 10 ^ (n + 1) = B * 10 * 10 ^ n := by rw [Int.pow_succ, Int.mul_assoc, Int.mul_comm (10 ^ n) 10]
  rw [e]
  unfold Rd.numF
  split
  ·have d := digit_le t r
   exact numF_in t n _ _ (B * 10) (by omega) (by omega)
  ·refine ⟨h0, ?_⟩
   have h2 : B * 10 * 1 ≤ B * 10 * 10 ^ n := Int.mul_le_mul_of_nonneg_left (by omega) (by omega)
   simp only
   omega
theorem number_in (t : List UInt8) (r : Rd) : -9223372036854775808 ≤ (r.number t).2 ∧ (r.number t).2 ≤ 9223372036854775807 := by
 have d := digit_le t r
 have h := numF_in t 17 (r.takeOne t 48 57).1 (r.takeOne t 48 57).2 10 d.1 (by omega)
 unfold Rd.number
 have e : (10 : Int) * 10 ^ 17 = 1000000000000000000 := by decide
 rw [e] at h
 omega
theorem takeOne_in (t : List UInt8) (r : Rd) (a b : UInt8) : -9223372036854775808 ≤ (r.takeOne t a b).2 ∧ (r.takeOne t a b).2 ≤ 9223372036854775807 := by
 unfold Rd.takeOne
 split
 ·have h1 := (t.getD r.pos 0).toNat_lt
  have h2 := a.toNat_lt
  constructor <;> simp only <;> omega
 ·simp
def PN (x : RP) : Prop := ∀ p ∈ x.2, PtNum p
theorem pn_app {r r' : Rd} {l m : List Pt} (h : PN (r, l)) (k : ∀ p ∈ m, PtNum p) : PN (r', l ++ m) := by
 intro p hp
 rcases List.mem_append.mp hp with e | e
 ·exact h p e
 ·exact k p e
theorem pn_one {r r' : Rd} {l : List Pt} (h : PN (r, l)) (op : Int) {v : Int} (hv : -9223372036854775808 ≤ v ∧ v ≤ 9223372036854775807) : PN (r', l ++ [⟨op, v⟩]) :=
 pn_app h (by intro p hp; simp at hp; subst hp; exact hv)
theorem plainU_pn {t : List UInt8} {cmp : RP → RP} (hc : ∀ x, PN x → PN (cmp x)) {x : RP} (h : PN x) : PN (plainU t cmp x) := by
 unfold plainU
 split
 ·exact pn_one h 1 (number_in t x.1)
 split
 ·exact pn_one h 2 (takeOne_in t x.1 97 122)
 split
 ·exact hc _ h
 ·exact h
theorem unitU_pn {t : List UInt8} {cmp : RP → RP} (hc : ∀ x, PN x → PN (cmp x)) {x : RP} (h : PN x) : PN (unitU t cmp x) := by
 unfold unitU
 have k := plainU_pn (t := t) hc (x := ((minusF t (t.length + 1) x.1).1, x.2)) h
 refine pn_app (r := (plainU t cmp ((minusF t (t.length + 1) x.1).1, x.2)).1) k ?_
 intro p hp
 have := List.eq_of_mem_replicate hp
 subst this
 exact ⟨by decide, by decide⟩
theorem prodL_pn {t : List UInt8} {cmp : RP → RP} (hc : ∀ x, PN x → PN (cmp x)) : ∀ (n : Nat) (x : RP), PN x → PN (prodL t cmp n x)
 | 0, x, h => h
 | n + 1, x, h => by
  unfold prodL
  simp only
  split
  ·exact h
  ·refine prodL_pn hc n _ ?_
   exact pn_one (r := (unitU t cmp ((x.1.prodOper t).1, x.2)).1) (unitU_pn hc (x := ((x.1.prodOper t).1, x.2)) h) _ (by decide)
theorem prodU_pn {t : List UInt8} {cmp : RP → RP} (hc : ∀ x, PN x → PN (cmp x)) {x : RP} (h : PN x) : PN (prodU t cmp x) := prodL_pn hc _ _ (unitU_pn hc h)
theorem sumL_pn {t : List UInt8} {cmp : RP → RP} (hc : ∀ x, PN x → PN (cmp x)) : ∀ (n : Nat) (x : RP), PN x → PN (sumL t cmp n x)
 | 0, x, h => h
 | n + 1, x, h => by
  unfold sumL
  simp only
  split
  ·exact h
  ·refine sumL_pn hc n _ ?_
   exact pn_one (r := (prodU t cmp ((x.1.oper t 43 4 45 5).1, x.2)).1) (prodU_pn hc (x := ((x.1.oper t 43 4 45 5).1, x.2)) h) _ (by decide)
theorem sumU_pn {t : List UInt8} {cmp : RP → RP} (hc : ∀ x, PN x → PN (cmp x)) {x : RP} (h : PN x) : PN (sumU t cmp x) := sumL_pn hc _ _ (prodU_pn hc h)
theorem cmpU_pn {t : List UInt8} {cmp : RP → RP} (hc : ∀ x, PN x → PN (cmp x)) {x : RP} (h : PN x) : PN (cmpU t cmp x) := by
 unfold cmpU
 simp only
 split
 ·exact sumU_pn hc h
 ·exact pn_one (r := (sumU t cmp (((sumU t cmp x).1.oper t 60 9 61 10).1, (sumU t cmp x).2)).1) (sumU_pn hc (x := (((sumU t cmp x).1.oper t 60 9 61 10).1, (sumU t cmp x).2)) (sumU_pn hc h)) _ (by decide)
theorem cmpF_pn (t : List UInt8) : ∀ (n : Nat) (x : RP), PN x → PN (cmpF t n x)
 | 0, x, h => h
 | n + 1, x, h => cmpU_pn (fun y hy => cmpF_pn t n y hy) h
theorem expr_pn (t : List UInt8) (r : Rd) : ∀ p ∈ (exprU t r).2, PtNum p := by
 have h : PN (cmpF t 10 (r, [])) := cmpF_pn t 10 (r, []) (by intro p hp; simp at hp)
 unfold exprU
 exact h
theorem ruleU_pn {α : Type} {t : List UInt8} {blk : Rd → Rd × List α} {ok : List α → Prop} (hn : ok []) (hb : ∀ r, ok (blk r).2) (r : Rd) : (∀ p ∈ (ruleU t blk r).2.1.parts, PtNum p) ∧ ok (ruleU t blk r).2.2.1 ∧ ok (ruleU t blk r).2.2.2 := by
 unfold ruleU
 split
 ·exact ⟨expr_pn t _, hn, hn⟩
 split
 ·exact ⟨expr_pn t _, hn, hn⟩
 split
 ·exact ⟨expr_pn t _, hn, hn⟩
 split
 ·simp only
  split
  ·exact ⟨expr_pn t _, hb _, hb _⟩
  ·exact ⟨expr_pn t _, hb _, hn⟩
 split
 ·exact ⟨by intro p hp; simp at hp, hb _, hn⟩
 ·exact ⟨by intro p hp; simp [Core.none] at hp, hn, hn⟩
theorem rulesL_pn {α : Type} {rule : Rd → Rd × α} {halt : Rd → Bool} {one : α → Prop} (hr : ∀ r, one (rule r).2) : ∀ (k : Nat) (r : Rd), ∀ q ∈ (rulesL rule halt k r).2, one q
 | 0, r => by intro q hq; simp [rulesL] at hq
 | k + 1, r => by
  unfold rulesL
  split
  ·intro q hq; simp at hq
  ·intro q hq
   rcases List.mem_cons.mp hq with e | e
   ·rw [e]; exact hr r
   ·exact rulesL_pn hr k _ q e
theorem nums_nil : ∀ n, NumsOk n []
 | 0 => trivial
 | n + 1 => by intro q hq; cases hq
theorem blockF_pn (t : List UInt8) : ∀ (n : Nat) (r : Rd), NumsOk n (blockF t n r).2
 | 0, r => trivial
 | n + 1, r => by
  show NumsOk (n + 1) (blockU t (α := RT (n + 1)) (fun r => ruleU t (blockF t n) r) r).2
  unfold blockU
  exact rulesL_pn (α := RT (n + 1)) (one := fun q : RT (n + 1) => (∀ p ∈ (show Core × List (RT n) × List (RT n) from q).1.parts, PtNum p) ∧ NumsOk n (show Core × List (RT n) × List (RT n) from q).2.1 ∧ NumsOk n (show Core × List (RT n) × List (RT n) from q).2.2) (fun r => ruleU_pn (nums_nil n) (fun r => blockF_pn t n r) r) _ _
theorem parse_nums (t : List UInt8) : NumsOk 9 (parseR t).2 := by
 unfold parseR
 exact rulesL_pn (α := RT 9) (one := fun q : RT 9 => (∀ p ∈ (show Core × List (RT 8) × List (RT 8) from q).1.parts, PtNum p) ∧ NumsOk 8 (show Core × List (RT 8) × List (RT 8) from q).2.1 ∧ NumsOk 8 (show Core × List (RT 8) × List (RT 8) from q).2.2) (fun r => ruleU_pn (nums_nil 8) (fun r => blockF_pn t 8 r) r) _ _
end Go.Proofs.YtdgmoiflahoihaaGreat
namespace Go.Proofs.YtdgmoiflahoihaaGreat
set_option linter.unusedSimpArgs false
set_option linter.unusedVariables false
def repO (f : SR → Option SR) : Nat → SR → Option SR
 | 0, s => some s
 | n + 1, s => match f s with | some s' => repO f n s' | none => none
def giveO (e : Rest) (v : Vl) (s : SR) : List Vl := if 0 ≤ e.name then s.1.set e.name.toNat v else s.1
def ruleO (p1 p2 : SR → Option SR) (c : UInt8) (a : Int) (e : Rest) (v : Vl) (s : SR) : Option SR :=
 if c = 62 then (if 0 ≤ e.label then some (giveO e v s, s.2 ++ [⟨0, a.toNat, e.label.toNat, v⟩]) else none)
 else if c = 94 then (if 0 ≤ e.label then some (giveO e v s, s.2 ++ [⟨1, a.toNat, e.label.toNat, v⟩]) else none)
 else if c = 40 then (if v.fault = 0 then (if v.num ≠ 0 then p1 (giveO e v s, s.2) else p2 (giveO e v s, s.2)) else some (giveO e v s, s.2))
 else some (giveO e v s, s.2)
def stepO (C : List UInt8) (A : List Int) (play : Nat → Nat → SR → Option SR) (lo : Nat) (s : SR) : Option SR :=
 match restC C lo, blocksC C lo, C[lo]?, A[lo]? with
 | some e, some t, some c, some a =>
  if c = 42 then
   match C[lo + 1]? with
   | some d => if 48 ≤ d.toNat then repO (fun s => play t.p t.q s) (d.toNat - 48) s else none
   | none => none
  else
   match valueF C s.1 (C.length + 1) e.lo e.hi with
   | some v => if e.hi ≤ C.length ∧ e.name < 26 ∧ 0 ≤ a then ruleO (fun s => play t.p t.q s) (fun s => play t.r t.s s) c a e v s else none
   | none => none
 | _, _, _, _ => none
def playF (C : List UInt8) (A : List Int) : Nat → Nat → Nat → SR → Option SR
 | 0, _, _, _ => none
 | f + 1, lo, hi, s =>
  if lo < hi then
   match overC C lo, stepO C A (playF C A f) lo s with
   | some o, some s' => playF C A f o hi s'
   | _, _ => none
  else some s
theorem playF_out (C : List UInt8) (A : List Int) (f lo hi : Nat) (s : SR) (h : ¬ lo < hi) : playF C A (f + 1) lo hi s = some s := by
 unfold playF
 rw [if_neg h]
theorem playF_in {C : List UInt8} {A : List Int} {f lo hi o : Nat} {s s' : SR} (h : lo < hi) (ho : overC C lo = some o) (hs : stepO C A (playF C A f) lo s = some s') : playF C A (f + 1) lo hi s = playF C A f o hi s' := by
 conv => lhs; unfold playF
 rw [if_pos h, ho, hs]
theorem repO_some {f : SR → Option SR} {g : SR → SR} (h : ∀ s, f s = some (g s)) : ∀ (n : Nat) (s : SR), repO f n s = some (repS g n s)
 | 0, s => rfl
 | n + 1, s => by
  unfold repO repS
  rw [h s]
  exact repO_some h n (g s)
theorem Ev.value {C : List UInt8} {i j : Nat} {s : Option (Nat × Nat)} {P : List Pt} (h : Ev C i j s P) (names : List Vl) : valueF C names (C.length + 1) i j = some (valueV names P) := by
 obtain ⟨v, h1, h2⟩ := h.val
 have hle := h.le
 rw [h1 names _ (by omega)]
 unfold valueV
 rw [h2]
 simp [topV]
theorem play_eq {C : List UInt8} {A : List Int} : ∀ (n : Nat) (l : List (RT n)) (lo hi f : Nat) (s : SR), CutT C A n lo hi l → hi ≤ C.length → hi - lo < f → playF C A f lo hi s = some (doF n s l)
 | 0, l, lo, hi, 0, s, h, _, hf => by omega
 | 0, l, lo, hi, f + 1, s, h, _, hf => by
  have h' : lo = hi := h
  subst h'
  exact playF_out C A f lo lo s (Nat.lt_irrefl _)
 | n + 1, l, lo, hi, f, s, h, hh, hf => by
  have key : ∀ (l : List (Core × List (RT n) × List (RT n))) (lo f : Nat) (s : SR), CutL (fun i o q => CutOne C A (CutT C A n) i o q) lo hi l → hi - lo < f → playF C A f lo hi s = some (doL (doF n) s l) := by
   intro l
   induction l with
   | nil =>
    intro lo f s h hf
    have h' : lo = hi := h
    subst h'
    cases f with
    | zero => omega
    | succ f => exact playF_out C A f lo lo s (Nat.lt_irrefl _)
   | cons q r ih =>
    intro lo f s h hf
    obtain ⟨hlt, o, h1, h2⟩ := h
    obtain ⟨e, he, he1, he2, _, _, hnm, hlb⟩ := h1.rest
    obtain ⟨tw, hb, hb1, hb2⟩ := h1.blocks
    obtain ⟨c, hc, hc42, hc40, hc62, hc94⟩ := h1.byte
    have hpl := h1.place
    have hsp := span_ok h1.over he hb
    have hog := over_gt h1.over
    have hi' := over_lt h1.over
    have hx : tw.q ≤ C.length ∧ tw.s ≤ C.length := by
     have s1 := shutC_le C
     have a2 := s1 (shutC C lo)
     have a3 := s1 (lo + 2)
     have hol := over_le h1.over
     have hbb := hb
     rw [blocks_at h1.over hi'] at hbb
     repeat' split at hbb
     all_goals (cases hbb; simp only; omega)
    have hoh := (cutL_le r o _ (fun i o q hq => over_gt hq.over) h2).1
    cases f with
    | zero => omega
    | succ f =>
    have w1 := fun s => play_eq n q.2.1 tw.p tw.q f s hb1 hx.1 (by omega)
    have w2 := fun s => play_eq n q.2.2 tw.r tw.s f s hb2 hx.2 (by omega)
    have w3 := fun s => ih o f s h2 (by omega)
    have hst : stepO C A (playF C A f) lo s = some (doT (doF n) s q) := by
     unfold stepO
     rw [he, hb, hc, hpl]
     simp only
     by_cases k4 : q.1.kind = 4
     ·rw [if_pos (hc42.mpr k4)]
      obtain ⟨d, hd, d1, d2, hcnt⟩ := h1.times k4
      rw [hd]
      simp only
      rw [if_pos (by omega), repO_some (g := fun s => doF n s q.2.1) w1]
      have e1 : q.1.count.toNat = d.toNat - 48 := by omega
      unfold doT
      simp [k4, e1]
     ·rw [if_neg (fun k => k4 (hc42.mp k))]
      obtain ⟨e', he', sv, hev⟩ := h1.val k4
      rw [he] at he'
      cases he'
      rw [hev.1.value]
      simp only
      obtain ⟨kd0, kd4⟩ := h1.kind
      have hnn := h1.name
      have hgd : e.hi ≤ C.length ∧ e.name < 26 ∧ (0 : Int) ≤ (q.1.place : Int) := by
       refine ⟨he2, ?_, by omega⟩
       rw [hnm]
       split
       ·rename_i hk
        exact (hnn hk).2
       ·omega
      rw [if_pos hgd]
      unfold ruleO doT
      generalize valueV s.1 q.1.parts = v
      by_cases k2 : q.1.kind = 2
      ·rw [if_pos (hc62.mpr k2)]
       have n1 : e.name = -1 := by rw [hnm]; simp [k2]
       have n2 : e.label = (q.1.label : Int) := by rw [hlb]; simp [k2]
       unfold giveO
       rw [n1, n2]
       simp [k2]
      rw [if_neg (fun k => k2 (hc62.mp k))]
      by_cases k1 : q.1.kind = 1
      ·rw [if_pos (hc94.mpr k1)]
       have hn := hnn (.inr k1)
       have n1 : e.name = q.1.name := by rw [hnm]; simp [k1]
       have n2 : e.label = (q.1.label : Int) := by rw [hlb]; simp [k1]
       unfold giveO
       rw [n1, n2, if_pos hn.1]
       simp [k1]
      rw [if_neg (fun k => k1 (hc94.mp k))]
      by_cases k3 : q.1.kind = 3
      ·rw [if_pos (hc40.mpr k3)]
       have n1 : e.name = -1 := by rw [hnm]; simp [k3]
       have hg : giveO e v s = s.1 := by unfold giveO; rw [n1]; simp
       rw [hg]
       simp only [k3]
       by_cases v0 : v.fault = 0
       ·by_cases v1 : v.num = 0
        ·simp [v0, v1, w2]
        ·simp [v0, v1, w1]
       ·simp [v0]
      ·rw [if_neg (fun k => k3 (hc40.mp k))]
       have k0 : q.1.kind = 0 := by omega
       have hn := hnn (.inl k0)
       have n1 : e.name = q.1.name := by rw [hnm]; simp [k0]
       unfold giveO
       rw [n1, if_pos hn.1]
       simp [k0]
    rw [playF_in hlt h1.over hst, w3]
    rfl
  exact key l lo f s h hf
end Go.Proofs.YtdgmoiflahoihaaGreat
namespace Go.Proofs.YtdgmoiflahoihaaGreat
set_option linter.unusedSimpArgs false
set_option linter.unusedVariables false
def fieldsF (C : List UInt8) (B : Nat) : Nat → Nat → Option (List Int)
 | 0, _ => none
 | f + 1, i =>
  if i < B then
   match C[i]?, C[i + 1]?, overC C i with
   | some c, some d, some o =>
    (match fieldsF C B f o with
    | some l => some (if c = 63 then ((d.toNat : Int) - 97) :: l else l)
    | none => none)
   | _, _, _ => none
  else some []
def setAll : List Int → List Int → List Vl → List Vl
 | n :: r, x :: g, vals => setAll r g (vals.set n.toNat ⟨x, 0⟩)
 | _, _, vals => vals
theorem fields_eq {C : List UInt8} {A : List Int} {B : Nat} : ∀ (l : List Hd) (i f : Nat), CutHd C A i B l → B - i < f → fieldsF C B f i = some ((l.filter (·.field)).map (·.name))
 | [], i, 0, h, hf => by omega
 | [], i, f + 1, h, hf => by
  have : i = B := h
  subst this
  unfold fieldsF
  rw [if_neg (Nat.lt_irrefl _)]
  rfl
 | a :: r, i, 0, h, hf => by omega
 | a :: r, i, f + 1, h, hf => by
  obtain ⟨hlt, o, h1, h2⟩ := h
  obtain ⟨c, hc, _, hcf⟩ := h1.byte
  obtain ⟨d, hd, hn⟩ := h1.name
  have hog := over_gt h1.over
  have hoi := (cutHd_le r o B h2).1
  unfold fieldsF
  rw [if_pos hlt, hc, hd, h1.over]
  simp only
  rw [fields_eq r o f h2 (by omega)]
  simp only
  by_cases h63 : c = 63
  ·rw [if_pos h63, List.filter_cons_of_pos (hcf.mp h63), List.map_cons, hn]
  ·have : a.field = false := by
    cases hfa : a.field
    ·rfl
    ·exact absurd (hcf.mpr hfa) h63
   rw [if_neg h63, List.filter_cons_of_neg (by simp [this])]
theorem setAll_fill : ∀ (l : List Hd) (fs : List Int) (vals : List Vl), setAll ((l.filter (·.field)).map (·.name)) fs vals = fillV l fs vals
 | [], fs, vals => by cases fs <;> rfl
 | h :: r, fs, vals => by
  cases hf : h.field
  ·rw [fillV_skip hf, List.filter_cons_of_neg (by simp [hf])]
   exact setAll_fill r fs vals
  ·rw [List.filter_cons_of_pos hf, List.map_cons]
   cases fs with
   | nil =>
    rw [fillV_none, ← setAll_fill r [] vals]
    cases (r.filter (·.field)).map (·.name) <;> rfl
   | cons x g =>
    rw [fillV_some hf]
    exact setAll_fill r g _
end Go.Proofs.YtdgmoiflahoihaaGreat
