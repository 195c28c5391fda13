import Derived.Test.YtdgmoiflahoihabGreatRStw
import Derived.Test.YtdgmoiflahoihabGreatVAw
import Derived.Deep.RegionWith
import Derived.Deep.RegionHeld3

namespace Go.Proofs.YtdgmoiflahoihabGreat
open Go.RowKit
set_option linter.unusedSimpArgs false
set_option linter.unusedVariables false
structure XS where
 regs : List Vl
 notes : List Nt
 pc : Nat
def XS.give (s : XS) (a : Int) (v : Vl) : XS := ⟨s.regs.set a.toNat v, s.notes, s.pc + 1⟩
def XS.reg (s : XS) (a : Int) : Vl := s.regs.getD a.toNat vl0
def stepX (x : Ic) (fs : List Int) (s : XS) : XS :=
 if x.op = 1 then s.give x.a ⟨x.b, 0⟩
 else if x.op = 2 then s.give x.a (s.reg x.b)
 else if x.op = 3 then s.give x.a (negV (s.reg x.b))
 else if x.op = 11 then s.give x.a ⟨fs.getD x.b.toNat 0, 0⟩
 else if x.op = 12 then { s with pc := x.a.toNat }
 else if x.op = 13 then { s with pc := if (s.reg x.a).fault ≠ 0 then x.c.toNat else if (s.reg x.a).num = 0 then x.b.toNat else s.pc + 1 }
 else if x.op = 14 then { s with notes := s.notes ++ [⟨0, x.a.toNat, x.b.toNat, s.reg x.c⟩], pc := s.pc + 1 }
 else if x.op = 15 then { s with notes := s.notes ++ [⟨1, x.a.toNat, x.b.toNat, s.reg x.c⟩], pc := s.pc + 1 }
 else s.give x.a (opV x.op (s.reg x.b) (s.reg x.c))
def execF (l : List Ic) (fs : List Int) : Nat → XS → Option (List Nt)
 | 0, _ => none
 | f + 1, s => if (l.getD s.pc ⟨0, 0, 0, 0⟩).op = 0 then some s.notes else execF l fs f (stepX (l.getD s.pc ⟨0, 0, 0, 0⟩) fs s)
def regs0 : List Vl := List.replicate 100 vl0
def x0 : XS := ⟨regs0, [], 0⟩
def hasI (l : List Ic) (n : Nat) : Bool := l.all fun x => !(x.op == 11 && decide ((n : Int) ≤ x.b))
def execI (l : List Ic) (fs : List Int) : Int × List Nt :=
 if (validI l).1 ≠ 0 then ((validI l).1, [])
 else if hasI l fs.length then (match execF l fs 50000 x0 with | none => (8, []) | some n => (0, n))
 else (6, [])
theorem vloop_all {n : Nat} : ∀ (l : List Ic) (k : Nat), (vloop n l k).1 = 0 → ∀ i (h : i < l.length), fitsI l[i] n = true ∧ (i + 1 = l.length → endsI l[i] = true)
 | [], _, _, i, h => absurd h (by simp)
 | x :: r, k, hv, i, h => by
  unfold vloop at hv
  split at hv
  ·rename_i hc
   simp only [Bool.and_eq_true, Bool.or_eq_true] at hc
   cases i with
   | zero =>
    refine ⟨by simpa using hc.1, fun he => ?_⟩
    have hr : r = [] := by simpa using he
    subst hr
    simpa using hc.2
   | succ i =>
    have := vloop_all r (k + 1) hv i (by simpa using h)
    simpa using this
  ·simp at hv
theorem valid_all {l : List Ic} (h : (validI l).1 = 0) : 0 < l.length ∧ l.length ≤ 2000 ∧ ∀ i (hi : i < l.length), fitsI l[i] l.length = true ∧ (i + 1 = l.length → endsI l[i] = true) := by
 unfold validI at h
 split at h
 ·simp at h
 split at h
 ·simp at h
 ·exact ⟨by omega, by omega, vloop_all l 0 h⟩
structure XOk (s : XS) : Prop where
 len : s.regs.length = 100
 ok : ∀ v ∈ s.regs, VlOk v
theorem XOk.reg {s : XS} (h : XOk s) (a : Int) : VlOk (s.reg a) := by
 unfold XS.reg
 rw [List.getD_eq_getElem?_getD]
 cases e : s.regs[a.toNat]? with
 | none => exact ⟨by simp [vl0], by simp [vl0], by simp [vl0]⟩
 | some v => exact h.ok v (List.mem_of_getElem? e)
theorem XOk.give {s : XS} (h : XOk s) (a : Int) {v : Vl} (hv : VlOk v) : XOk (s.give a v) := by
 refine ⟨by simp [XS.give, h.len], fun x hx => ?_⟩
 rcases List.mem_or_eq_of_mem_set hx with h' | h'
 ·exact h.ok x h'
 ·rw [h']; exact hv
theorem x0_ok : XOk x0 := by
 refine ⟨by simp [x0, regs0], fun v hv => ?_⟩
 have := List.eq_of_mem_replicate hv
 rw [this]
 exact ⟨by simp [vl0], by simp [vl0], by simp [vl0]⟩
def FsOk (fs : List Int) : Prop := ∀ x ∈ fs, -9223372036854775808 ≤ x ∧ x ≤ 9223372036854775807
theorem stepX_ok {s : XS} (h : XOk s) {x : Ic} (hx : -9223372036854775808 ≤ x.b ∧ x.b ≤ 9223372036854775807) {fs : List Int} (hf : FsOk fs) : XOk (stepX x fs s) := by
 have hg : -9223372036854775808 ≤ fs.getD x.b.toNat 0 ∧ fs.getD x.b.toNat 0 ≤ 9223372036854775807 := by
  rw [List.getD_eq_getElem?_getD]
  cases e : fs[x.b.toNat]? with
  | none => simp
  | some v => exact hf v (List.mem_of_getElem? e)
 unfold stepX
 split
 ·exact h.give _ ⟨hx, by simp, by simp⟩
 split
 ·exact h.give _ (h.reg _)
 split
 ·exact h.give _ (negV_ok (h.reg _))
 split
 ·exact h.give _ ⟨hg, by simp, by simp⟩
 split
 ·exact ⟨h.len, h.ok⟩
 split
 ·exact ⟨h.len, h.ok⟩
 split
 ·exact ⟨h.len, h.ok⟩
 split
 ·exact ⟨h.len, h.ok⟩
 ·exact h.give _ (opV_ok _ (h.reg _) (h.reg _))
theorem stepX_notes (x : Ic) (fs : List Int) (s : XS) : (stepX x fs s).notes.length ≤ s.notes.length + 1 := by
 unfold stepX XS.give
 repeat' split
 all_goals simp
theorem stepX_pc {l : List Ic} (hv : (validI l).1 = 0) {s : XS} (hp : s.pc < l.length) (h0 : l[s.pc].op ≠ 0) (fs : List Int) : (stepX l[s.pc] fs s).pc < l.length := by
 obtain ⟨_, _, hall⟩ := valid_all hv
 obtain ⟨hf, he⟩ := hall s.pc hp
 generalize l[s.pc] = x at *
 have nx : x.op ≠ 12 → s.pc + 1 < l.length := fun h => by
  rcases Nat.lt_or_ge (s.pc + 1) l.length with h' | h'
  ·exact h'
  ·have := he (by omega)
   unfold endsI at this
   simp at this
   omega
 unfold fitsI at hf
 unfold stepX XS.give
 split
 ·exact nx (by omega)
 split
 ·exact nx (by omega)
 split
 ·exact nx (by omega)
 split
 ·exact nx (by omega)
 split
 ·rename_i h
  simp [h, bel] at hf
  show x.a.toNat < l.length
  omega
 split
 ·rename_i h
  simp [h, bel] at hf
  have := nx (by omega)
  obtain ⟨⟨_, b0, b1⟩, c0, c1⟩ := hf
  show (if _ then x.c.toNat else if _ then x.b.toNat else s.pc + 1) < l.length
  split
  ·exact (Int.toNat_lt c0).mpr c1
  split
  ·exact (Int.toNat_lt b0).mpr b1
  ·exact this
 split
 ·exact nx (by omega)
 split
 ·exact nx (by omega)
 ·exact nx (by omega)
end Go.Proofs.YtdgmoiflahoihabGreat
namespace Go.Proofs.YtdgmoiflahoihabGreat
open Go.RowKit
set_option linter.unusedSimpArgs false
set_option linter.unusedVariables false
def NumCells (w : World) (ao : Option Addr) (g o : Nat) (l : List Int) : Prop := ∀ i, ∀ hi : i < l.length, ao = some ⟨g, o, none⟩ ∧ g < w.heap.size ∧ w.cell? ⟨g, o + i, none⟩ = some (.int .i64 l[i])
theorem NumCells.block {w w' : World} {ao : Option Addr} {g o : Nat} {l : List Int} (h : NumCells w ao g o l) (hs : w.heap.size ≤ w'.heap.size) (e : w'.heap[g]? = w.heap[g]?) : NumCells w' ao g o l := by
 intro i hi
 obtain ⟨a, b, c⟩ := h i hi
 exact ⟨a, by omega, (World.cell?_of_block (a := ⟨g, _, none⟩) e).trans c⟩
theorem NumCells.below {w w' : World} {ao : Option Addr} {g o : Nat} {l : List Int} (h : NumCells w ao g o l) (hb : Below w.heap.size w w') : NumCells w' ao g o l := by
 intro i hi
 obtain ⟨a, b, c⟩ := h i hi
 exact ⟨a, Nat.lt_of_lt_of_le b hb.size, (hb.cell (p := ⟨g, _, none⟩) b).trans c⟩
theorem reg_nat (s : XS) (a : Nat) : s.reg (a : Int) = s.regs.getD a vl0 := rfl
theorem give_nat (s : XS) (a : Nat) (v : Vl) : s.give (a : Int) v = ⟨s.regs.set a v, s.notes, s.pc + 1⟩ := rfl
def ExecPost (w : World) (r : Int × List Nt) (x : Ending) (w' : World) : Prop :=
 (∃ vn, x = .returned (.tuple #[vn, .int .i64 r.1]) ∧ (r.1 ≠ 0 → vn = .slice none 0 0) ∧ w'.ownsRow w.heap.size 32 5 vn r.2.length (ntCells r.2)) ∧ Below w.heap.size w w'
structure DoOk (n nf : Nat) (x : Ic) : Prop where
 fit : fitsI x n = true
 op : x.op ≠ 0
 inp : x.op = 11 → x.b.toNat < nf
theorem hasI_bad {l : List Ic} {n k : Nat} (hk : k < l.length) (h1 : l[k].op = 11) (h2 : (n : Int) ≤ l[k].b) : hasI l n = false := by
 unfold hasI
 rw [List.all_eq_false]
 exact ⟨l[k], List.getElem_mem hk, by simp [h1, h2]⟩
theorem hasI_all {l : List Ic} {n : Nat} (h : ∀ k, ∀ hk : k < l.length, ¬ (l[k].op = 11 ∧ (n : Int) ≤ l[k].b)) : hasI l n = true := by
 unfold hasI
 rw [List.all_eq_true]
 intro x hx
 obtain ⟨k, hk, rfl⟩ := List.getElem_of_mem hx
 have := h k hk
 simp
 by_cases h1 : l[k].op = 11
 ·right
  by_cases h2 : (n : Int) ≤ l[k].b
  ·exact absurd ⟨h1, h2⟩ this
  ·omega
 ·exact .inl h1
theorem hasI_at {l : List Ic} {n : Nat} (h : hasI l n = true) {k : Nat} (hk : k < l.length) (h1 : l[k].op = 11) : l[k].b < n := by
 unfold hasI at h
 rw [List.all_eq_true] at h
 have := h l[k] (List.getElem_mem hk)
 simp [h1] at this
 omega
theorem execF_end {l : List Ic} {fs : List Int} {f : Nat} {s : XS} (hf : 0 < f) (hp : s.pc < l.length) (h : l[s.pc].op = 0) : execF l fs f s = some s.notes := by
 obtain ⟨m, rfl⟩ : ∃ m, f = m + 1 := ⟨f - 1, by omega⟩
 unfold execF
 have e : l.getD s.pc ⟨0, 0, 0, 0⟩ = l[s.pc] := by rw [List.getD_eq_getElem?_getD, List.getElem?_eq_getElem hp]; rfl
 rw [e, if_pos h]
theorem execF_step {l : List Ic} {fs : List Int} {f : Nat} {s : XS} (hf : 0 < f) (hp : s.pc < l.length) (h : l[s.pc].op ≠ 0) : execF l fs f s = execF l fs (f - 1) (stepX l[s.pc] fs s) := by
 obtain ⟨m, rfl⟩ : ∃ m, f = m + 1 := ⟨f - 1, by omega⟩
 have e : l.getD s.pc ⟨0, 0, 0, 0⟩ = l[s.pc] := by rw [List.getD_eq_getElem?_getD, List.getElem?_eq_getElem hp]; rfl
 rw [execF, e, if_neg h]
 rfl
theorem own_base2 {w : World} {base base' size n : Nat} {e : TypeId} {v : Value} {xs : List Value} (h : w.ownsRow base e size v n xs) (hb : base' ≤ base) : w.ownsRow base' e size v n xs := by
 refine ⟨h.1, ?_⟩
 rcases h.2 with h0 | ⟨g, cap, cur, h1, h2, h3⟩
 ·exact .inl h0
 ·exact .inr ⟨g, cap, cur, h1, by omega, h3⟩
end Go.Proofs.YtdgmoiflahoihabGreat
namespace Go.Proofs.YtdgmoiflahoihabGreat
open Go.RowKit
set_option linter.unusedSimpArgs false
set_option linter.unusedVariables false
def numRow (l : List Int) : List Value := l.map (Value.int .i64)
theorem numRow_length (l : List Int) : (numRow l).length = l.length := by simp [numRow]
theorem infoInt3 : (Tryz.prog.info? 3).map (fun i => (i.zero, i.size, i.bytes)) = some (some (.int .i64 0), 1, 8) := by kernel_rfl
theorem num_of_row {w : World} {g : Nat} {l : List Int} {t : TypeId} {r : List Value} (h : w.heap[g]? = some (.cells (numRow l ++ r).toArray t (0, 0))) : NumCells w (some ⟨g, 0, none⟩) g 0 l := by
 have hl := numRow_length l
 intro i hi
 refine ⟨rfl, (Array.getElem?_eq_some_iff.mp h).1, ?_⟩
 rw [cell_of_row _ _ _ _ _ _ h, Nat.zero_add]
 simp only [List.getElem?_toArray]
 rw [List.getElem?_append_left (by omega)]
 simp [numRow, List.getElem?_eq_getElem hi]
def NoteCells (w : World) (ao : Option Addr) (g : Nat) (l : List Nt) : Prop := ∀ i, ∀ hi : i < l.length, ao = some ⟨g, 0, none⟩ ∧ g < w.heap.size ∧
 w.cell? ⟨g, i * 5, none⟩ = some (.int .i64 l[i].kind) ∧ w.cell? ⟨g, i * 5 + 1, none⟩ = some (.int .i64 l[i].place) ∧ w.cell? ⟨g, i * 5 + 2, none⟩ = some (.int .i64 l[i].label) ∧ w.cell? ⟨g, i * 5 + 3, none⟩ = some (.int .i64 l[i].val.num) ∧ w.cell? ⟨g, i * 5 + 4, none⟩ = some (.int .i64 l[i].val.fault)
theorem NoteCells.below {w w' : World} {ao : Option Addr} {g : Nat} {l : List Nt} (h : NoteCells w ao g l) (hb : Below w.heap.size w w') : NoteCells w' ao g l := by
 intro i hi
 obtain ⟨e, hg, c0, c1, c2, c3, c4⟩ := h i hi
 exact ⟨e, Nat.lt_of_lt_of_le hg hb.size, (hb.cell (p := ⟨g, _, none⟩) hg).trans c0, (hb.cell (p := ⟨g, _, none⟩) hg).trans c1, (hb.cell (p := ⟨g, _, none⟩) hg).trans c2, (hb.cell (p := ⟨g, _, none⟩) hg).trans c3, (hb.cell (p := ⟨g, _, none⟩) hg).trans c4⟩
theorem ntCells_at (l : List Nt) : ∀ (i : Nat) (h : i < l.length), (ntCells l)[i * 5]? = some (.int .i64 l[i].kind) ∧ (ntCells l)[i * 5 + 1]? = some (.int .i64 l[i].place) ∧ (ntCells l)[i * 5 + 2]? = some (.int .i64 l[i].label) ∧ (ntCells l)[i * 5 + 3]? = some (.int .i64 l[i].val.num) ∧ (ntCells l)[i * 5 + 4]? = some (.int .i64 l[i].val.fault) := by
 induction l with
 | nil => intro i h; cases h
 | cons p r ih =>
  intro i h
  cases i with
  | zero => simp [ntCells, ntCell]
  | succ i =>
   have k := ih i (by simpa using h)
   rw [show (i + 1) * 5 = i * 5 + 5 by omega]
   simpa [ntCells, ntCell] using k
theorem notes_form {w : World} {base : Nat} {v : Value} {l : List Nt} (h : w.ownsRow base 32 5 v l.length (ntCells l)) : ∃ ao g cap, v = .slice ao l.length cap ∧ NoteCells w ao g l := by
 rcases h.2 with ⟨rfl, h0⟩ | ⟨g, cap, cur, rfl, hb, hg, hc, hm, hcs, ht⟩
 ·exact ⟨none, 0, 0, by rw [h0], fun i hi => absurd hi (by omega)⟩
 ·have hln := ntCells_len l
  refine ⟨some ⟨g, 0, none⟩, g, cap, rfl, fun i hi => ⟨rfl, (h.lt g rfl).2, ?_, ?_, ?_, ?_, ?_⟩⟩
  ·rw [h.cellAt (i * 5) (by omega)]; exact (ntCells_at l i hi).1
  ·rw [h.cellAt (i * 5 + 1) (by omega)]; exact (ntCells_at l i hi).2.1
  ·rw [h.cellAt (i * 5 + 2) (by omega)]; exact (ntCells_at l i hi).2.2.1
  ·rw [h.cellAt (i * 5 + 3) (by omega)]; exact (ntCells_at l i hi).2.2.2.1
  ·rw [h.cellAt (i * 5 + 4) (by omega)]; exact (ntCells_at l i hi).2.2.2.2
theorem nums_form {w : World} {base : Nat} {v : Value} {l : List Int} (h : w.ownsRow base 3 1 v l.length (numRow l)) : ∃ ao g cap, v = .slice ao l.length cap ∧ NumCells w ao g 0 l := by
 rcases h.2 with ⟨rfl, h0⟩ | ⟨g, cap, cur, rfl, hb, hg, hc, hm, hcs, ht⟩
 ·exact ⟨none, 0, 0, by rw [h0], fun i hi => absurd hi (by omega)⟩
 ·refine ⟨some ⟨g, 0, none⟩, g, cap, rfl, fun i hi => ⟨rfl, (h.lt g rfl).2, ?_⟩⟩
  rw [Nat.zero_add, h.cellAt i (by omega)]
  simp [numRow, List.getElem?_eq_getElem hi]
theorem ins_form {w : World} {base : Nat} {v : Value} {l : List Ic} (h : w.ownsRow base 73 4 v l.length (icRow l)) : ∃ ao g cap, v = .slice ao l.length cap ∧ InsCells w ao g 0 l := by
 have hln := icRow_length l
 rcases h.2 with ⟨rfl, h0⟩ | ⟨g, cap, cur, rfl, hb, hg, hc, hm, hcs, ht⟩
 ·exact ⟨none, 0, 0, by rw [h0], fun i hi => absurd hi (by omega)⟩
 ·refine ⟨some ⟨g, 0, none⟩, g, cap, rfl, fun i hi => ⟨rfl, (h.lt g rfl).2, ?_, ?_, ?_, ?_⟩⟩
  ·rw [Nat.zero_add, h.cellAt (i * 4) (by omega)]; exact (icRow_at l i hi).1
  ·rw [Nat.zero_add, h.cellAt (i * 4 + 1) (by omega)]; exact (icRow_at l i hi).2.1
  ·rw [Nat.zero_add, h.cellAt (i * 4 + 2) (by omega)]; exact (icRow_at l i hi).2.2.1
  ·rw [Nat.zero_add, h.cellAt (i * 4 + 3) (by omega)]; exact (icRow_at l i hi).2.2.2
end Go.Proofs.YtdgmoiflahoihabGreat
namespace Go.Proofs.YtdgmoiflahoihabGreat
open Go.RowKit
set_option linter.unusedSimpArgs false
set_option linter.unusedVariables false
structure XAt (w : World) (b : Nat) (s : XS) : Prop where
 cell : ∀ k, k < 100 → w.cell? ⟨b, k * 2, none⟩ = some (.int .i64 (s.regs.getD k vl0).num) ∧ w.cell? ⟨b, k * 2 + 1, none⟩ = some (.int .i64 (s.regs.getD k vl0).fault)
 row : ∃ v, w.cell? ⟨b, 200, none⟩ = some v ∧ w.ownsRow (b + 1) 32 5 v s.notes.length (ntCells s.notes)
 pc : w.cell? ⟨b, 201, none⟩ = some (.int .i64 s.pc)
 fz : ∀ o, w.frozen? ⟨b, o, none⟩ = false
theorem XAt.lt {w : World} {b : Nat} {s : XS} (h : XAt w b s) : b < w.heap.size := World.block_lt_of_cell? w _ h.pc
theorem XAt.keep {w w' : World} {b B : Nat} {s : XS} (h : XAt w b s) (hb : Below B w w') (hB : w.heap.size ≤ B) : XAt w' b s := by
 have hlt := h.lt
 obtain ⟨hc, ⟨v, c, ho⟩, hp, fz⟩ := h
 exact ⟨fun k hk => ⟨(hb.cell (p := ⟨b, k * 2, none⟩) (by simp only; omega)).trans (hc k hk).1, (hb.cell (p := ⟨b, k * 2 + 1, none⟩) (by simp only; omega)).trans (hc k hk).2⟩, ⟨v, (hb.cell (p := ⟨b, 200, none⟩) (by simp only; omega)).trans c, own_low ho hb hB⟩, (hb.cell (p := ⟨b, 201, none⟩) (by simp only; omega)).trans hp, fun o => (hb.frozen (p := ⟨b, o, none⟩) (by simp only; omega)).trans (fz o)⟩
theorem XAt.goto {w : World} {b : Nat} {s : XS} (h : XAt w b s) (n : Nat) : XAt (w.setCell ⟨b, 201, none⟩ (.int .i64 n)) b ⟨s.regs, s.notes, n⟩ := by
 obtain ⟨hc, ⟨v, c, ho⟩, hp, fz⟩ := h
 refine ⟨fun k hk => ?_, ⟨v, by simp [go_sem, c], ownsRow_setCell_below ho (a := ⟨b, 201, none⟩) (by simp) _⟩, by simp [go_sem, hp], fun o => by simp [go_sem, fz]⟩
 obtain ⟨e0, e1⟩ := hc k hk
 have n1 : ¬ 201 = k * 2 := by omega
 have n2 : ¬ 201 = k * 2 + 1 := by omega
 constructor
 ·simp [go_sem, e0, n1]
 ·simp [go_sem, e1, n2]
theorem XAt.set {w : World} {b : Nat} {s : XS} (h : XAt w b s) (hl : s.regs.length = 100) (i : Nat) (hi : i < 100) (x : Vl) : XAt ((w.setCell ⟨b, i * 2, none⟩ (.int .i64 x.num)).setCell ⟨b, i * 2 + 1, none⟩ (.int .i64 x.fault)) b ⟨s.regs.set i x, s.notes, s.pc⟩ := by
 obtain ⟨hc, ⟨v, c, ho⟩, hp, fz⟩ := h
 refine ⟨fun k hk => ?_, ⟨v, ?_, ?_⟩, ?_, fun o => by simp [go_sem, fz]⟩
 ·obtain ⟨e0, e1⟩ := hc k hk
  obtain ⟨f0, f1⟩ := hc i hi
  by_cases hik : i = k
  ·subst hik
   have e : (s.regs.set i x).getD i vl0 = x := by rw [List.getD_eq_getElem?_getD, List.getElem?_set_self (by omega)]; rfl
   simp only [e]
   constructor <;> simp [go_sem, f0, f1]
  ·have e : (s.regs.set i x).getD k vl0 = s.regs.getD k vl0 := by rw [List.getD_eq_getElem?_getD, List.getElem?_set_ne hik, List.getD_eq_getElem?_getD]
   simp only [e]
   have n1 : ¬ i * 2 = k * 2 := by omega
   have n2 : ¬ i * 2 + 1 = k * 2 := by omega
   have n3 : ¬ i * 2 = k * 2 + 1 := by omega
   have n4 : ¬ i * 2 + 1 = k * 2 + 1 := by omega
   constructor
   ·simp [go_sem, e0, n1, n2]
   ·simp [go_sem, e1, n3, n4, hik]
 ·have n1 : ¬ i * 2 = 200 := by omega
  have n2 : ¬ i * 2 + 1 = 200 := by omega
  simp [go_sem, c, n1, n2]
 ·exact ownsRow_setCell_below (ownsRow_setCell_below ho (a := ⟨b, i * 2, none⟩) (by simp) _) (a := ⟨b, i * 2 + 1, none⟩) (by simp) _
 ·have n1 : ¬ i * 2 = 201 := by omega
  have n2 : ¬ i * 2 + 1 = 201 := by omega
  simp [go_sem, hp, n1, n2]
def DoPost (w : World) (b : Nat) (s : XS) (e : Ending) (w' : World) : Prop := e = .returned (.tuple #[]) ∧ XAt w' b s ∧ Below b w w'
structure BoxAt2 (w W : World) (b : Nat) (s : XS) (x : Ic) : Prop where
 k0 : W.cell? ⟨w.heap.size, 0, none⟩ = some (.int .i64 x.op)
 k1 : W.cell? ⟨w.heap.size, 1, none⟩ = some (.int .i64 x.a)
 k2 : W.cell? ⟨w.heap.size, 2, none⟩ = some (.int .i64 x.b)
 k3 : W.cell? ⟨w.heap.size, 3, none⟩ = some (.int .i64 x.c)
 st : XAt W b ⟨s.regs, s.notes, s.pc + 1⟩
 low : Below b w W
 size : W.heap.size = w.heap.size + 1
theorem boxAt2 {w : World} {b : Nat} {s : XS} (h : XAt w b s) (x : Ic) : BoxAt2 w ((w.setCell ⟨b, 201, none⟩ (.int .i64 ((s.pc : Int) + 1))).alloc (.cells (icCells x) 73)) b s x := by
 have hlt := h.lt
 have hs : (w.setCell ⟨b, 201, none⟩ (.int .i64 ((s.pc : Int) + 1))).heap.size = w.heap.size := by simp
 refine ⟨?_, ?_, ?_, ?_, ?_, ?_, ?_⟩
 ·simp [go_sem]
 ·simp [go_sem]
 ·simp [go_sem]
 ·simp [go_sem]
 ·have k := h.goto (s.pc + 1)
  exact k.keep ((Below.refl _ _).alloc (Nat.le_refl _) _) (Nat.le_refl _)
 ·exact ((Below.refl b w).setCell (by simp) _).alloc (by rw [hs]; omega) _
 ·simp
set_option maxRecDepth 100000 in
set_option maxHeartbeats 1000000 in
theorem d_jump (b : Nat) (s : XS) (w : World) (hS : XAt w b s) (hO : XOk s) (hpc : s.pc ≤ 2000) (fs : List Int) (vf : Value) (a : Nat) (c d : Int) :
  Calls Tryz.prog 33 #[.pointer (some ⟨b, 0, none⟩), icV ⟨12, a, c, d⟩, vf] w (DoPost w b (stepX ⟨12, a, c, d⟩ fs s)) := by
 have HE : Hid (stepX ⟨12, a, c, d⟩ fs s = ⟨s.regs, s.notes, a⟩) := by show _ = _; unfold stepX; simp
 rw [HE.out]
 have HB : Hid _ := boxAt2 hS ⟨12, a, c, d⟩
 have hp := hS.pc
 have fz := hS.fz
 have hlt := hS.lt
 clear hO HE hS
 go_enter Tryz.func33, Tryz.ntmps33
 go_upto_region 2 with fail
 generalize ((w.setCell ⟨b, 201, none⟩ (.int .i64 ((s.pc : Int) + 1))).alloc (.cells (icCells ⟨12, a, c, d⟩) 73)) = W at *
 obtain ⟨k0, k1, k2, k3, hst, hlow, hsz⟩ := HB.out
 simp only at k0 k1 k2 k3
 have hp2 := hst.pc
 have fz2 := hst.fz
 have HST : Hid (XAt W b ⟨s.regs, s.notes, s.pc + 1⟩) := hst
 have HLOW : Hid (Below b w W) := hlow
 clear hst hlow HB hp fz
 go_wp2_with fail
 go_end0
 exact ⟨rfl, HST.out.goto a, HLOW.out.setCell (by simp) _⟩
end Go.Proofs.YtdgmoiflahoihabGreat
