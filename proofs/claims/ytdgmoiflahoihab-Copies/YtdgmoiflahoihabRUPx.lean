import Derived.Test.YtdgmoiflahoihabRVx
import Derived.Test.YtdgmoiflahoihabKCheckx

namespace Go.Proofs.Ytdgmoiflahoihab
open Go.RowKit
set_option linter.unusedSimpArgs false
set_option linter.unusedVariables false
def vl0 : Vl := ⟨0, 0⟩
def vlCell (v : Vl) : List Value := [.int .i64 v.num, .int .i64 v.fault]
def vlCells (l : List Vl) : List Value := l.flatMap vlCell
theorem vlCells_len (l : List Vl) : (vlCells l).length = l.length * 2 := by
 induction l with
 | nil => rfl
 | cons p r ih => simp only [vlCells, List.flatMap_cons, List.length_append] at ih ⊢; rw [ih]; simp [vlCell]; omega
theorem vlCells_app (l r : List Vl) : vlCells (l ++ r) = vlCells l ++ vlCells r := by simp [vlCells]
theorem vlCells_at (l : List Vl) : ∀ (i : Nat) (h : i < l.length), (vlCells l)[i * 2]? = some (.int .i64 l[i].num) ∧ (vlCells l)[i * 2 + 1]? = some (.int .i64 l[i].fault) := by
 induction l with
 | nil => intro i h; cases h
 | cons p r ih =>
  intro i h
  cases i with
  | zero => simp [vlCells, vlCell]
  | succ i =>
   have := ih i (by simpa using h)
   simp only [vlCells, List.flatMap_cons, vlCell] at this ⊢
   rw [show (i + 1) * 2 = i * 2 + 2 by omega, show i * 2 + 2 + 1 = (i * 2 + 1) + 2 by omega]
   simpa using this
def topV (st : List Vl) : Vl := st.getLast?.getD vl0
def takeV (names : List Vl) (p : Pt) (st : List Vl) : Vl × List Vl :=
 if p.op = 1 then (⟨p.num, 0⟩, st)
 else if p.op = 2 then (names.getD p.num.toNat vl0, st)
 else if p.op = 3 then (negV (topV st), st.dropLast)
 else (opV p.op (topV st.dropLast) (topV st), st.dropLast.dropLast)
def pileV (names : List Vl) : List Pt → List Vl → List Vl
 | [], st => st
 | p :: r, st => pileV names r ((takeV names p st).2 ++ [(takeV names p st).1])
def valueV (names : List Vl) (l : List Pt) : Vl := topV (pileV names l [])
theorem vl0_ok : VlOk vl0 := ⟨by simp [vl0], by simp [vl0], by simp [vl0]⟩
theorem topV_ok {st : List Vl} (h : ∀ v ∈ st, VlOk v) : VlOk (topV st) := by
 unfold topV
 cases e : st.getLast? with
 | none => exact vl0_ok
 | some v => exact h v (List.mem_of_getLast? e)
theorem dropLast_ok {st : List Vl} (h : ∀ v ∈ st, VlOk v) : ∀ v ∈ st.dropLast, VlOk v := fun v hv => h v (List.dropLast_subset _ hv)
theorem getD_ok {names : List Vl} (h : ∀ v ∈ names, VlOk v) (i : Nat) : VlOk (names.getD i vl0) := by
 rw [List.getD_eq_getElem?_getD]
 cases e : names[i]? with
 | none => exact vl0_ok
 | some v => exact h v (List.mem_of_getElem? e)
def PtNum (p : Pt) : Prop := -9223372036854775808 ≤ p.num ∧ p.num ≤ 9223372036854775807
theorem takeV_ok {names st : List Vl} {p : Pt} (hn : ∀ v ∈ names, VlOk v) (hs : ∀ v ∈ st, VlOk v) (hp : PtNum p) : VlOk (takeV names p st).1 ∧ ∀ v ∈ (takeV names p st).2, VlOk v := by
 unfold takeV
 split
 ·exact ⟨⟨hp, by simp, by simp⟩, hs⟩
 split
 ·exact ⟨getD_ok hn _, hs⟩
 split
 ·exact ⟨negV_ok (topV_ok hs), dropLast_ok hs⟩
 ·exact ⟨opV_ok _ (topV_ok (dropLast_ok hs)) (topV_ok hs), dropLast_ok (dropLast_ok hs)⟩
theorem takeV_len (names st : List Vl) (p : Pt) : (takeV names p st).2.length ≤ st.length := by
 unfold takeV
 split
 ·exact Nat.le_refl _
 split
 ·exact Nat.le_refl _
 split
 ·simp
 ·simp; omega
theorem pileV_ok {names : List Vl} (hn : ∀ v ∈ names, VlOk v) : ∀ (l : List Pt) (st : List Vl), (∀ p ∈ l, PtNum p) → (∀ v ∈ st, VlOk v) → ∀ v ∈ pileV names l st, VlOk v
 | [], st, _, hs => hs
 | p :: r, st, hl, hs => by
  have k := takeV_ok (names := names) hn hs (hl p (by simp))
  refine pileV_ok hn r _ (fun q hq => hl q (by simp [hq])) ?_
  intro v hv
  rcases List.mem_append.mp hv with h | h
  ·exact k.2 v h
  ·simp at h; rw [h]; exact k.1
theorem valueV_ok {names : List Vl} (hn : ∀ v ∈ names, VlOk v) {l : List Pt} (hl : ∀ p ∈ l, PtNum p) : VlOk (valueV names l) :=
 topV_ok (pileV_ok hn l [] hl (by simp))
end Go.Proofs.Ytdgmoiflahoihab
