import Derived.Test.YtdgmoiflahoihaaGreatDoorBAw
import Derived.Test.YtdgmoiflahoihaaGreatDoorPlainw
import Derived.RegionTactic
import Derived.ChangeAlike
import Derived.Deep.RegionWith
import Derived.Deep.Cut
import Derived.Deep.CutRange
import Derived.Laws.BitsAllLaws
import Derived.Deep.QuietTactic
import Derived.BigQuiet
import Derived.Deep.RegionLaw
import Derived.Lib.SmallJoins
import Derived.Lib.OwnKind
import Derived.Laws.Rows
import Derived.Deep.AppendSrc
import Derived.Laws.Tables
import Derived.Deep.WholeRow
import Derived.Deep.RegionHeld3
import Derived.Test.YtdgmoiflahoihaaGreatDoorRParsew

namespace Go.Proofs.YtdgmoiflahoihaaGreatDoor
open Go.RowKit
set_option linter.unusedSimpArgs false
set_option linter.unusedVariables false
theorem ret_int {k : IntKind} {a b : Int} (h : a = b) : Ending.returned (.int k a) = .returned (.int k b) := by rw [h]
theorem i64_or_nat (a b : Nat) (ha : a < 4294967296) (hb : b < 4294967296) : bits .or .i64 (a : Int) (b : Int) = ((a ||| b : Nat) : Int) := by
 have hx : a ||| b < 2 ^ 32 := Nat.or_lt_two_pow (by omega) (by omega)
 show IntKind.i64.wrap ((BitVec.ofInt 64 (a : Int) ||| BitVec.ofInt 64 (b : Int)).toNat : Int) = _
 rw [BitVec.toNat_or, Go.ofInt_u64 a (by omega), Go.ofInt_u64 b (by omega)]
 exact IntWalk.i64_in _ ⟨by omega, by omega⟩
def keptL : List UInt8 → List UInt8
 | [] => []
 | c :: r => if blankB c then keptL r else c :: keptL r
def atL : List UInt8 → Nat → List Int
 | [], _ => []
 | c :: r, k => if blankB c then atL r (k + 1) else (k : Int) :: atL r (k + 1)
theorem ret_bool {a b : Bool} (h : a = b) : Ending.returned (.bool a) = .returned (.bool b) := by rw [h]
def natV (n : Nat) : Value := .int .i64 n
def arrV (of : List Nat) : Array Value := (of.map natV).toArray
def BoxAt (w : World) (B : Nat) (of : List Nat) : Prop := w.heap[B]? = some (.cells (arrV of) 69 (0, 0))
theorem BoxAt.lt {w : World} {B : Nat} {of : List Nat} (h : BoxAt w B of) : B < w.heap.size := by
 unfold BoxAt at h
 exact (Array.getElem?_eq_some_iff.mp h).1
theorem BoxAt.below {w w' : World} {B : Nat} {of : List Nat} (h : BoxAt w B of) (hb : Below w.heap.size w w') : BoxAt w' B of := by
 have := hb.block B h.lt
 unfold BoxAt at *
 rw [this, h]
theorem BoxAt.new (w : World) (of : List Nat) : BoxAt (w.alloc (.cells (arrV of) 69)) w.heap.size of := by
 unfold BoxAt
 show (w.heap.push _)[w.heap.size]? = _
 simp
theorem BoxAt.cell {w : World} {B : Nat} {of : List Nat} (h : BoxAt w B of) (k : Nat) (hk : k < of.length) : w.cell? ⟨B, k, none⟩ = some (.int .i64 (of.getD k 0 : Nat)) := by
 rw [cell_of_row w B k _ _ _ h]
 simp [arrV, natV, hk]
theorem infoArr : (Tryz.prog.info? 69).map (fun i => i.size) = some 26 := by kernel_rfl
theorem getD_lt {of : List Nat} (h : ∀ x ∈ of, x < 16) (k : Nat) : of.getD k 0 < 16 := by
 rw [List.getD_eq_getElem?_getD]
 cases e : of[k]? with
 | none => simp
 | some x => exact h x (List.mem_of_getElem? e)
def zero26 : List Nat := List.replicate 26 0
theorem BoxAt.keep {w w' : World} {B K : Nat} {of : List Nat} (h : BoxAt w B of) (hb : Below K w w') (hK : B < K) : BoxAt w' B of := by
 have := hb.block B hK
 unfold BoxAt at *
 rw [this, h]
theorem BoxAt.frozen {w : World} {B : Nat} {of : List Nat} (h : BoxAt w B of) (k : Nat) : w.frozen? ⟨B, k, none⟩ = false := by
 unfold BoxAt at h
 simp [World.frozen?, h]
theorem BoxAt.set {w : World} {B : Nat} {of : List Nat} (h : BoxAt w B of) (k m : Nat) : BoxAt (w.setCell ⟨B, k, none⟩ (.int .i64 (m : Nat))) B (of.set k m) := by
 unfold BoxAt at *
 rw [heap_setCell_same w B k _ _ _ h]
 congr 2
 apply Array.ext'
 simp [arrV, natV, List.map_set]
theorem BoxAt.setRow {w : World} {B : Nat} {of : List Nat} (new : List Nat) (h : BoxAt w B of) : BoxAt (w.setRow B (arrV new)) B new := by
 unfold BoxAt at *
 exact setRow_heap w B _ _ _ _ h
theorem below_setRow {w w' : World} {B K : Nat} {cs : Array Value} (h : Below K w w') (hB : K ≤ B) : Below K w (w'.setRow B cs) := by
 refine h.trans ⟨rfl, rfl, rfl, by simp, fun k hk => ?_⟩
 simp only [World.setRow]
 rw [Array.getElem?_modify, if_neg (by omega)]
theorem arr_one (of : List Nat) : (arrV of).all (·.oneCell') = true := by
 rw [Array.all_eq_true_iff_forall_mem]
 intro v hv
 simp [arrV, natV] at hv
 obtain ⟨n, _, rfl⟩ := hv
 rfl
theorem zeroArr : arrV zero26 = #[.int .i64 0, .int .i64 0, .int .i64 0, .int .i64 0, .int .i64 0, .int .i64 0, .int .i64 0, .int .i64 0, .int .i64 0, .int .i64 0, .int .i64 0, .int .i64 0, .int .i64 0, .int .i64 0, .int .i64 0, .int .i64 0, .int .i64 0, .int .i64 0, .int .i64 0, .int .i64 0, .int .i64 0, .int .i64 0, .int .i64 0, .int .i64 0, .int .i64 0, .int .i64 0] := by rfl
theorem box_zero (w : World) : BoxAt (w.alloc (.cells #[.int .i64 0, .int .i64 0, .int .i64 0, .int .i64 0, .int .i64 0, .int .i64 0, .int .i64 0, .int .i64 0, .int .i64 0, .int .i64 0, .int .i64 0, .int .i64 0, .int .i64 0, .int .i64 0, .int .i64 0, .int .i64 0, .int .i64 0, .int .i64 0, .int .i64 0, .int .i64 0, .int .i64 0, .int .i64 0, .int .i64 0, .int .i64 0, .int .i64 0, .int .i64 0] 69)) w.heap.size zero26 := by
 have := BoxAt.new w zero26
 rwa [zeroArr] at this
theorem range_keep {W w5 : World} {g o : Nat} {cs : List Value} (hb : Below W.heap.size W w5) (h : W.rangeAt g o cs) : w5.rangeAt g o cs := by
 intro j v hv
 have := h j v hv
 rw [hb.cell (block_lt_of_cell this)]
 exact this
end Go.Proofs.YtdgmoiflahoihaaGreatDoor
namespace Go.Proofs.YtdgmoiflahoihaaGreatDoor
open Go.RowKit
set_option linter.unusedSimpArgs false
set_option linter.unusedVariables false
set_option maxHeartbeats 400000 in
theorem flows_pr (a b : Nat) (w : World) (ha : a < 16) (hb : b < 16) :
  Calls Tryz.prog 102 #[.int .i64 a, .int .i64 b] w fun e w' => e = .returned (.bool (goesB a b)) ∧ w' = w := by
 have ho := i64_or_nat a b (by omega) (by omega)
 go_enter Tryz.func102, Tryz.ntmps102
 go_wp2
 go_ret
 exact ⟨ret_bool (by rw [Bool.eq_iff_iff]; simp [goesB]; omega), rfl⟩
def labL (of : List Nat) : List Pt → Nat → Nat
 | [], a => a
 | p :: r, a => labL of r (if p.op = 2 then a ||| of.getD p.num.toNat 0 else a)
theorem labL_cons (of : List Nat) (p : Pt) (r : List Pt) (a : Nat) : labL of (p :: r) a = labL of r (if p.op = 2 then a ||| of.getD p.num.toNat 0 else a) := rfl
def PtOk (p : Pt) : Prop := p.op = 2 → 0 ≤ p.num ∧ p.num < 26
theorem ptCells_at (l : List Pt) : ∀ (i : Nat) (h : i < l.length), (ptCells l)[i * 2]? = some (.int .i64 l[i].op) ∧ (ptCells l)[i * 2 + 1]? = some (.int .i64 l[i].num) := by
 induction l with
 | nil => intro i h; cases h
 | cons p r ih =>
  intro i h
  cases i with
  | zero => simp [ptCells, ptV]
  | succ i =>
   have := ih i (by simpa using h)
   simp only [ptCells, List.flatMap_cons, ptV] at this ⊢
   rw [show (i + 1) * 2 = i * 2 + 2 by omega, show i * 2 + 2 + 1 = (i * 2 + 1) + 2 by omega]
   simpa using this
theorem parts_form {w : World} {P : Nat → Prop} {v : Value} {l : List Pt} (h : PartsV w P v l) :
  ∃ ao g cap, v = .slice ao l.length cap ∧ ∀ i, ∀ hi : i < l.length, ao = some ⟨g, 0, none⟩ ∧ g < w.heap.size ∧ w.cell? ⟨g, i * 2, none⟩ = some (.int .i64 l[i].op) ∧ w.cell? ⟨g, i * 2 + 1, none⟩ = some (.int .i64 l[i].num) := by
 obtain ⟨ho, _⟩ := h
 rcases Joins.ownsRow_forms ho with ⟨rfl, h0⟩ | ⟨g, cap, rfl⟩
 ·exact ⟨none, 0, 0, by rw [h0], fun i hi => absurd hi (by omega)⟩
 ·refine ⟨some ⟨g, 0, none⟩, g, cap, rfl, fun i hi => ⟨rfl, (ho.lt g rfl).2, ?_, ?_⟩⟩
  ·rw [ho.cellAt (i * 2) (by omega)]; exact (ptCells_at l i hi).1
  ·rw [ho.cellAt (i * 2 + 1) (by omega)]; exact (ptCells_at l i hi).2
set_option maxRecDepth 100000 in
set_option maxHeartbeats 1000000 in
theorem labelOf_any (of : List Nat) (l : List Pt) (P : Nat → Prop) (v : Value) (w : World) (hof : of.length = 26) (h16 : ∀ x ∈ of, x < 16) (hl : l.length ≤ 1000) (hok : ∀ p ∈ l, PtOk p) (hv : PartsV w P v l) :
  Calls Tryz.prog 88 #[v, .agg (arrV of)] w fun e w' => e = .returned (.int .i64 (labL of l 0)) ∧ Below w.heap.size w w' := by
 have hsz : (arrV of).size = 26 := by simp [arrV, hof]
 obtain ⟨ao, g, cap, rfl, hcells⟩ := parts_form hv
 clear hv
 go_enter Tryz.func88, Tryz.ntmps88
 go_wp2_with fail
 have hb0 : BoxAt (w.alloc (.cells (arrV of) 69)) w.heap.size of := BoxAt.new w of
 have hw0 : Below w.heap.size w (w.alloc (.cells (arrV of) 69)) := (Below.refl _ _).alloc (Nat.le_refl _) _
 have HC : Hid _ := hcells
 have HOK : Hid _ := hok
 have H16 : Hid (∀ x ∈ of, x < 16) := h16
 clear hcells hok h16
 go_loopw [5, 10] (fun x y w' => ∃ (k a : Nat), y = .int .i64 k ∧ x = .int .i64 a ∧ k ≤ l.length ∧ a < 16 ∧ Hid (BoxAt w' w.heap.size of) ∧ Hid (Below w.heap.size w w') ∧ Hid (labL of (l.drop k) a = labL of l 0)) (fun _ y _ => l.length - (intOf y).toNat)
 case atStart => exact ⟨0, 0, rfl, rfl, by omega, by omega, hb0, hw0, rfl⟩
 case round =>
  obtain ⟨k, a, rfl, rfl, hk, ha, HB, HW, HL⟩ := hrel
  by_cases hlt : k < l.length
  ·obtain ⟨e0, hg, c0, c1⟩ := HC.out k hlt
   have ok := HOK.out l[k] (List.getElem_mem hlt)
   rw [← HW.out.cell (p := ⟨g, k * 2, none⟩) hg] at c0
   rw [← HW.out.cell (p := ⟨g, k * 2 + 1, none⟩) hg] at c1
   have hz : w.heap.size < wr.heap.size := HB.out.lt
   have hstep := HL.out
   rw [List.drop_eq_getElem_cons hlt, labL_cons] at hstep
   generalize hp : l[k] = p at *
   obtain ⟨op, num⟩ := p
   simp only at c0 c1 hstep
   have tk : decide ((k : Int) < (l.length : Int)) = true := by simp; omega
   subst e0
   have HS : Hid _ := hstep
   by_cases h2 : op = 2
   ·subst h2
    obtain ⟨n0, n1⟩ := ok rfl
    simp only at n0 n1
    obtain ⟨nn, rfl⟩ : ∃ nn : Nat, num = nn := ⟨num.toNat, by omega⟩
    have hcell := HB.out.cell nn (by omega)
    have hol : of.getD nn 0 < 16 := by
     rw [List.getD_eq_getElem?_getD, List.getElem?_eq_getElem (by omega)]
     exact H16.out _ (List.getElem_mem _)
    have HS2 : Hid (labL of (l.drop (k + 1)) (a ||| of.getD nn 0) = labL of l 0) := by show _ = _; have := HS.out; simpa using this
    generalize of.getD nn 0 = q at *
    have ho := i64_or_nat a q (by omega) (by omega)
    have hlq := or_lt16 ha hol
    have hne : ¬ w.heap.size = wr.heap.size := by omega
    clear hstep HS ok hp
    go_wp2_with fail
    go_roundw
    case rel => exact ⟨k + 1, a ||| q, by go_num, rfl, by omega, hlq, HB.out.keep (K := wr.heap.size) ((Below.refl _ _).alloc (Nat.le_refl _) _) hz, HW.out.alloc (by omega) _, HS2⟩
    case measure => simp [intOf]; omega
   ·have HS2 : Hid (labL of (l.drop (k + 1)) a = labL of l 0) := by show _ = _; have := HS.out; simpa [h2] using this
    have t2 : (op == 2) = false := by simpa using h2
    clear hstep HS ok hp
    go_wp2_with fail
    go_roundw
    case rel => exact ⟨k + 1, a, by go_num, rfl, by omega, ha, HB.out.keep (K := wr.heap.size) ((Below.refl _ _).alloc (Nat.le_refl _) _) hz, HW.out.alloc (by omega) _, HS2⟩
    case measure => simp [intOf]; omega
  ·have tk : decide ((k : Int) < (l.length : Int)) = false := by simp; omega
   have hfin : a = labL of l 0 := by
    have := HL.out
    rw [List.drop_of_length_le (by omega)] at this
    exact this
   have HF : Hid _ := hfin
   clear hfin
   go_wp2_with fail
   go_ret
   exact ⟨ret_int (by rw [HF.out]), HW.out⟩
end Go.Proofs.YtdgmoiflahoihaaGreatDoor
namespace Go.Proofs.YtdgmoiflahoihaaGreatDoor
open Go.RowKit
set_option linter.unusedSimpArgs false
set_option linter.unusedVariables false
def cleanT (of : List Nat) (g : Nat) (c : Core) : Bool :=
 if c.kind = 0 then goesB (g ||| labL of c.parts 0) (of.getD c.name.toNat 0)
 else if c.kind = 1 then goesB g c.label && goesB c.label (of.getD c.name.toNat 0)
 else if c.kind = 2 then goesB (g ||| labL of c.parts 0) c.label
 else true
structure CoreOk (c : Core) : Prop where
 name : c.kind = 0 ∨ c.kind = 1 → 0 ≤ c.name ∧ c.name < 26
 label : c.label < 16
 parts : ∀ p ∈ c.parts, PtOk p
 few : c.parts.length ≤ 1000
 place : c.place ≤ 400
 count : 0 ≤ c.count ∧ c.count ≤ 9
 once : c.kind = 4 → 1 ≤ c.count
 kind : 0 ≤ c.kind ∧ c.kind ≤ 4
theorem labL_lt {of : List Nat} (h : ∀ x ∈ of, x < 16) : ∀ (l : List Pt) (a : Nat), a < 16 → labL of l a < 16
 | [], a, ha => ha
 | p :: r, a, ha => by
  rw [labL_cons]
  refine labL_lt h r _ ?_
  split
  ·exact or_lt16 ha (getD_lt h _)
  ·exact ha
theorem flows_is (a b : Nat) (r : Bool) (w : World) (ha : a < 16) (hb : b < 16) (hr : goesB a b = r) :
  Calls Tryz.prog 102 #[.int .i64 a, .int .i64 b] w fun e w' => e = .returned (.bool r) ∧ w' = w := by
 rw [← hr]
 exact flows_pr a b w ha hb
set_option maxRecDepth 100000 in
set_option maxHeartbeats 1000000 in
theorem isClean_any (of : List Nat) (g : Nat) (c : Core) (P : Nat → Prop) (ve v1 v2 : Value) (w : World) (hof : of.length = 26) (h16 : ∀ x ∈ of, x < 16) (hg : g < 16) (hc : CoreOk c) (hv : PartsV w P ve c.parts) :
  Calls Tryz.prog 87 #[.agg (coreV c ++ [ve, v1, v2]).toArray, .int .i64 g, .agg (arrV of)] w fun e w' => e = .returned (.bool (cleanT of g c)) ∧ Below w.heap.size w w' := by
 have hsz : (arrV of).size = 26 := by simp [arrV, hof]
 have hbx : BoxAt ((w.alloc (.cells #[.int .i64 c.kind, .int .i64 c.place, .int .i64 c.name, .int .i64 c.label, .int .i64 c.count, ve, v1, v2] 149)).alloc (.cells (arrV of) 69)) (w.heap.size + 1) of := by
  have := BoxAt.new (w.alloc (.cells #[.int .i64 c.kind, .int .i64 c.place, .int .i64 c.name, .int .i64 c.label, .int .i64 c.count, ve, v1, v2] 149)) of
  simpa using this
 have hL := labL_lt h16 c.parts 0 (by omega)
 obtain ⟨oname, olabel, oparts, ofew, oplace, ocount, oonce, okind⟩ := hc
 simp only [coreV, List.cons_append, List.nil_append]
 generalize hW : ((w.alloc (.cells #[.int .i64 c.kind, .int .i64 c.place, .int .i64 c.name, .int .i64 c.label, .int .i64 c.count, ve, v1, v2] 149)).alloc (.cells (arrV of) 69)) = W at hbx
 have HW : Hid _ := hW
 have hBW : Below w.heap.size w W := by rw [← hW]; exact ((Below.refl _ _).alloc (Nat.le_refl _) _).alloc (by simp) _
 have hWs : W.heap.size = w.heap.size + 2 := by rw [← hW]; simp
 have hWv : PartsV W P ve c.parts := partsV_frame hv (fun k hk hl => ⟨hk, hBW.block k hl⟩)
 have q0 : W.cell? ⟨w.heap.size, 0, none⟩ = some (.int .i64 c.kind) := by rw [← hW]; simp [go_sem]
 have q2 : W.cell? ⟨w.heap.size, 2, none⟩ = some (.int .i64 c.name) := by rw [← hW]; simp [go_sem]
 have q3 : W.cell? ⟨w.heap.size, 3, none⟩ = some (.int .i64 c.label) := by rw [← hW]; simp [go_sem]
 have q5 : W.cell? ⟨w.heap.size, 5, none⟩ = some ve := by rw [← hW]; simp [go_sem]
 have HBX : Hid (BoxAt W (w.heap.size + 1) of) := hbx
 have HP : Hid (∀ p ∈ c.parts, PtOk p) := oparts
 clear oparts hW hbx
 generalize hl : labL of c.parts 0 = L at *
 have HL : Hid (labL of c.parts 0 = L) := hl
 clear hl
 have HOF : Hid (of.length = 26) := hof
 go_enter Tryz.func87, Tryz.ntmps87
 go_wp2_with (refine wpList_load_row rfl 69 (.tmp 5) rfl (w.heap.size + 1) rfl 69 (arrV of) (0, 0) _ (by rw [HW.out]; exact HBX.out) Tryz.underlying69 rfl (by rw [infoArr, hsz]) ?_)
 rw [HW.out]
 refine (labelOf_any of c.parts P ve _ HOF.out h16 ofew HP.out hWv).mono ?_
 rw [HL.out]
 rintro e w1 ⟨rfl, hb1⟩
 have hlt0 : w.heap.size < W.heap.size := by omega
 rw [← hb1.cell (p := ⟨w.heap.size, 0, none⟩) hlt0] at q0
 rw [← hb1.cell (p := ⟨w.heap.size, 2, none⟩) hlt0] at q2
 rw [← hb1.cell (p := ⟨w.heap.size, 3, none⟩) hlt0] at q3
 have HBX1 : Hid (BoxAt w1 (w.heap.size + 1) of) := HBX.out.keep hb1 (by omega)
 have HB1 : Hid (Below w.heap.size w w1) := hBW.trans (hb1.mono (by omega))
 have hgl := i64_or_nat g L (by omega) (by omega)
 have hgl16 := or_lt16 hg hL
 clear hb1 HBX hBW hWv q5
 generalize hAe : g ||| L = A at *
 have HAe : Hid (g ||| labL of c.parts 0 = A) := by show _ = _; rw [HL.out]; exact hAe
 clear hAe
 by_cases k0 : c.kind = 0
 ·obtain ⟨n0, n1⟩ := oname (.inl k0)
  have HF : Hid (goesB A (of.getD c.name.toNat 0) = cleanT of g c) := by show _ = _; unfold cleanT; rw [if_pos k0, HAe.out]
  rw [k0] at q0
  generalize hnm : c.name = nm at *
  obtain ⟨nn, rfl⟩ : ∃ nn : Nat, nm = nn := ⟨nm.toNat, by omega⟩
  have hcell := HBX1.out.cell nn (by rw [HOF.out]; omega)
  have hol := getD_lt h16 nn
  simp only [Int.toNat_natCast] at HF
  generalize of.getD nn 0 = q at *
  clear oname hnm k0
  go_wp2_with fail
  refine (flows_pr A q _ hgl16 hol).mono ?_
  rintro e w2 ⟨rfl, rfl⟩
  go_wp2_with fail
  go_ret
  exact ⟨ret_boolR HF.out, HB1.out⟩
 by_cases k1 : c.kind = 1
 ·obtain ⟨n0, n1⟩ := oname (.inr k1)
  have HF : Hid ((goesB g c.label && goesB c.label (of.getD c.name.toNat 0)) = cleanT of g c) := by show _ = _; unfold cleanT; rw [if_neg k0, if_pos k1]
  rw [k1] at q0
  generalize hnm : c.name = nm at *
  obtain ⟨nn, rfl⟩ : ∃ nn : Nat, nm = nn := ⟨nm.toNat, by omega⟩
  have hcell := HBX1.out.cell nn (by rw [HOF.out]; omega)
  have hol := getD_lt h16 nn
  simp only [Int.toNat_natCast] at HF
  generalize of.getD nn 0 = q at *
  clear oname hnm k0 k1
  generalize hlb : c.label = lb at *
  have HLB : Hid (c.label = lb) := hlb
  clear hlb
  cases t2 : goesB lb q
  ·cases t1 : goesB g lb
   ·go_wp2_with fail
    go_quiet ((go_at_call 102; exact Calls.quiet_of_same (flows_is _ _ _ _ (by assumption) (by assumption) (by first | exact t1 | exact t2))))
    go_wp2_with fail
    go_ret
    exact ⟨ret_boolR (by have := HF.out; rw [t1] at this; simpa using this), below_drewN HB1.out _⟩
   ·go_wp2_with fail
    go_quiet ((go_at_call 102; exact Calls.quiet_of_same (flows_is _ _ _ _ (by assumption) (by assumption) (by first | exact t1 | exact t2))))
    go_wp2_with fail
    go_ret
    exact ⟨ret_boolR (by have := HF.out; rw [t1, t2] at this; simpa using this), below_drewN HB1.out _⟩
  ·cases t1 : goesB g lb
   ·go_wp2_with fail
    go_quiet ((go_at_call 102; exact Calls.quiet_of_same (flows_is _ _ _ _ (by assumption) (by assumption) (by first | exact t1 | exact t2))))
    go_wp2_with fail
    go_ret
    exact ⟨ret_boolR (by have := HF.out; rw [t1] at this; simpa using this), below_drewN HB1.out _⟩
   ·go_wp2_with fail
    go_quiet ((go_at_call 102; exact Calls.quiet_of_same (flows_is _ _ _ _ (by assumption) (by assumption) (by first | exact t1 | exact t2))))
    go_wp2_with fail
    go_ret
    exact ⟨ret_boolR (by have := HF.out; rw [t1, t2] at this; simpa using this), below_drewN HB1.out _⟩
 by_cases k2 : c.kind = 2
 ·have HF : Hid (goesB A c.label = cleanT of g c) := by show _ = _; unfold cleanT; rw [if_neg k0, if_neg k1, if_pos k2, HAe.out]
  rw [k2] at q0
  clear oname k0 k1 k2
  go_wp2_with fail
  refine (flows_pr A c.label _ hgl16 olabel).mono ?_
  rintro e w2 ⟨rfl, rfl⟩
  go_wp2_with fail
  go_ret
  exact ⟨ret_boolR HF.out, HB1.out⟩
 have HF : Hid (true = cleanT of g c) := by show _ = _; unfold cleanT; rw [if_neg k0, if_neg k1, if_neg k2]
 have t0 : (c.kind == 0) = false := by simpa using k0
 have t1 : (c.kind == 1) = false := by simpa using k1
 have t2 : (c.kind == 2) = false := by simpa using k2
 clear oname k0 k1 k2
 go_wp2_with fail
 go_ret
 exact ⟨ret_boolR HF.out, HB1.out⟩
end Go.Proofs.YtdgmoiflahoihaaGreatDoor
namespace Go.Proofs.YtdgmoiflahoihaaGreatDoor
open Go.RowKit
set_option linter.unusedSimpArgs false
set_option linter.unusedVariables false
def cleanL {α : Type} (rec : Nat → List α → Option Nat) (of : List Nat) (g : Nat) : List (Core × List α × List α) → Option Nat
 | [] => none
 | q :: r =>
  if cleanT of g q.1 then
   match rec (g ||| labL of q.1.parts 0) q.2.1 with
   | some p => some p
   | none =>
    match rec (g ||| labL of q.1.parts 0) q.2.2 with
    | some p => some p
    | none => cleanL rec of g r
  else some q.1.place
def cleanF (of : List Nat) (n : Nat) : Nat → List (RT n) → Option Nat :=
 match n with
 | 0 => fun _ _ => none
 | n + 1 => fun g l => cleanL (cleanF of n) of g l
def TreeOk (n : Nat) : List (RT n) → Prop :=
 match n with
 | 0 => fun _ => True
 | n + 1 => fun l => l.length ≤ 1000 ∧ ∀ q ∈ (l : List (Core × List (RT n) × List (RT n))), CoreOk q.1 ∧ TreeOk n q.2.1 ∧ TreeOk n q.2.2
theorem flat8 : ∀ (xs : List (List Value)), (∀ x ∈ xs, x.length = 8) → ∀ i (h : i < xs.length) j, j < 8 → xs.flatten[i * 8 + j]? = xs[i][j]?
 | [], _, i, h, _, _ => by cases h
 | x :: r, h8, 0, h, j, hj => by
  have hx := h8 x (by simp)
  simp only [List.flatten_cons, Nat.zero_mul, Nat.zero_add, List.getElem_cons_zero]
  rw [List.getElem?_append_left (by omega)]
 | x :: r, h8, i + 1, h, j, hj => by
  have hx := h8 x (by simp)
  simp only [List.flatten_cons, List.getElem_cons_succ]
  rw [List.getElem?_append_right (by omega), show (i + 1) * 8 + j - x.length = i * 8 + j by omega]
  exact flat8 r (fun y hy => h8 y (by simp [hy])) i (by simpa using h) j hj
theorem rules_at {n : Nat} {w : World} {P : Nat → Prop} {v : Value} {l : List (Core × List (RT n) × List (RT n))} (h : RowsC (fun cs q => RuleC (RulesV n w P) w P cs q) w P v l) :
  ∃ ao g cap, v = .slice ao l.length cap ∧ ∀ i, ∀ hi : i < l.length, ao = some ⟨g, 0, none⟩ ∧ g < w.heap.size ∧ ∃ cs, RuleC (RulesV n w P) w P cs l[i] ∧ ∀ j, j < 8 → w.cell? ⟨g, i * 8 + j, none⟩ = cs[j]? := by
 obtain ⟨xs, h1, h2, h3, h4⟩ := h
 have h8 : ∀ x ∈ xs, x.length = 8 := by
  intro x hx
  obtain ⟨i, hi, rfl⟩ := List.getElem_of_mem hx
  obtain ⟨ve, v1, v2, hcs, _⟩ := h4 i (by omega) hi
  rw [hcs]; rfl
 rcases Joins.ownsRow_forms h1 with ⟨rfl, h0⟩ | ⟨g, cap, rfl⟩
 ·exact ⟨none, 0, 0, by rw [h0], fun i hi => absurd hi (by omega)⟩
 ·refine ⟨some ⟨g, 0, none⟩, g, cap, rfl, fun i hi => ⟨rfl, (h1.lt g rfl).2, xs[i], h4 i hi (by omega), fun j hj => ?_⟩⟩
  rw [h1.cellAt (i * 8 + j) (by omega), flat8 xs h8 i (by omega) j hj]
def resV (o : Option Nat) : Value := .tuple #[.int .i64 ((o.getD 0 : Nat) : Int), .bool o.isNone]
def AllCalls (of : List Nat) (n : Nat) : Prop := ∀ (g : Nat) (l : List (RT n)) (P : Nat → Prop) (v : Value) (w : World), g < 16 → TreeOk n l → RulesV n w P v l →
 Calls Tryz.prog 53 #[v, .int .i64 g, .agg (arrV of)] w fun e w' => e = .returned (resV (cleanF of n g l)) ∧ Below w.heap.size w w'
set_option maxRecDepth 100000 in
set_option maxHeartbeats 1000000 in
theorem all_zero (of : List Nat) (hof : of.length = 26) : AllCalls of 0 := by
 intro g l P v w hg ht hv
 have hsz : (arrV of).size = 26 := by simp [arrV, hof]
 have hw0 : Below w.heap.size w (w.alloc (.cells (arrV of) 69)) := (Below.refl _ _).alloc (Nat.le_refl _) _
 obtain ⟨ao, cap, rfl⟩ : ∃ ao cap, v = .slice ao 0 cap := by
  rcases Joins.ownsRow_forms hv.1 with ⟨rfl, _⟩ | ⟨g, cap, rfl⟩ <;> exact ⟨_, _, rfl⟩
 clear hv
 show Calls _ _ _ _ fun e w' => e = .returned (.tuple #[.int .i64 0, .bool true]) ∧ _
 go_enter Tryz.func53, Tryz.ntmps53
 go_wp2_with fail
 go_loopw [15] (fun x w' => x = .int .i64 0 ∧ Below w.heap.size w w') (fun _ _ => 0)
 case atStart => exact ⟨rfl, hw0⟩
 case round =>
  obtain ⟨rfl, hb⟩ := hrel
  go_wp2_with fail
  go_ret2
  exact ⟨rfl, hb⟩
theorem isClean_at (of : List Nat) (g : Nat) (c : Core) (P : Nat → Prop) (ve v1 v2 : Value) (w : World) (hof : of.length = 26) (h16 : ∀ x ∈ of, x < 16) (hg : g < 16) (hc : CoreOk c) (hv : PartsV w P ve c.parts) :
  Calls Tryz.prog 87 #[.agg #[.int .i64 c.kind, .int .i64 c.place, .int .i64 c.name, .int .i64 c.label, .int .i64 c.count, ve, v1, v2], .int .i64 g, .agg (arrV of)] w fun e w' => e = .returned (.bool (cleanT of g c)) ∧ Below w.heap.size w w' :=
 isClean_any of g c P ve v1 v2 w hof h16 hg hc hv
theorem partsV_below {w w' : World} {P : Nat → Prop} {v : Value} {l : List Pt} (h : PartsV w P v l) (hb : Below w.heap.size w w') : PartsV w' P v l := partsV_frame h (fun k hk hl => ⟨hk, hb.block k hl⟩)
theorem rulesV_below {n : Nat} {w w' : World} {P : Nat → Prop} {v : Value} {l : List (RT n)} (h : RulesV n w P v l) (hb : Below w.heap.size w w') : RulesV n w' P v l := rulesV_frame (fun k hk hl => ⟨hk, hb.block k hl⟩) n v l h
theorem cleanL_bad {α : Type} {rec : Nat → List α → Option Nat} {of : List Nat} {g : Nat} {q : Core × List α × List α} {r : List (Core × List α × List α)} (h : cleanT of g q.1 = false) : cleanL rec of g (q :: r) = some q.1.place := by
 unfold cleanL; rw [if_neg (by rw [h]; decide)]
theorem cleanL_first {α : Type} {rec : Nat → List α → Option Nat} {of : List Nat} {g p : Nat} {q : Core × List α × List α} {r : List (Core × List α × List α)} (h : cleanT of g q.1 = true) (h1 : rec (g ||| labL of q.1.parts 0) q.2.1 = some p) : cleanL rec of g (q :: r) = some p := by
 unfold cleanL; rw [if_pos h, h1]
theorem cleanL_second {α : Type} {rec : Nat → List α → Option Nat} {of : List Nat} {g p : Nat} {q : Core × List α × List α} {r : List (Core × List α × List α)} (h : cleanT of g q.1 = true) (h1 : rec (g ||| labL of q.1.parts 0) q.2.1 = none) (h2 : rec (g ||| labL of q.1.parts 0) q.2.2 = some p) : cleanL rec of g (q :: r) = some p := by
 unfold cleanL; rw [if_pos h, h1]; simp only; rw [h2]
theorem cleanL_next {α : Type} {rec : Nat → List α → Option Nat} {of : List Nat} {g : Nat} {q : Core × List α × List α} {r : List (Core × List α × List α)} (h : cleanT of g q.1 = true) (h1 : rec (g ||| labL of q.1.parts 0) q.2.1 = none) (h2 : rec (g ||| labL of q.1.parts 0) q.2.2 = none) : cleanL rec of g (q :: r) = cleanL rec of g r := by
 conv => lhs; unfold cleanL
 rw [if_pos h, h1]; simp only; rw [h2]
theorem ret_res {o : Option Nat} {p : Nat} (h : some p = o) : Ending.returned (.tuple #[.int .i64 (p : Nat), .bool false]) = .returned (resV o) := by rw [← h]; rfl
set_option maxRecDepth 100000 in
set_option maxHeartbeats 1000000 in
theorem all_step (of : List Nat) (hof : of.length = 26) (h16 : ∀ x ∈ of, x < 16) (n : Nat) (ih : AllCalls of n) (g : Nat) (l : List (Core × List (RT n) × List (RT n))) (P : Nat → Prop) (v : Value) (w : World) (hg : g < 16) (hl : l.length ≤ 1000) (hok : ∀ q ∈ l, CoreOk q.1 ∧ TreeOk n q.2.1 ∧ TreeOk n q.2.2)
  (hv : RowsC (fun cs q => RuleC (RulesV n w P) w P cs q) w P v l) :
  Calls Tryz.prog 53 #[v, .int .i64 g, .agg (arrV of)] w fun e w' => e = .returned (resV (cleanL (cleanF of n) of g l)) ∧ Below w.heap.size w w' := by
 have hsz : (arrV of).size = 26 := by simp [arrV, hof]
 have hb0 : BoxAt (w.alloc (.cells (arrV of) 69)) w.heap.size of := BoxAt.new w of
 have hw0 : Below w.heap.size w (w.alloc (.cells (arrV of) 69)) := (Below.refl _ _).alloc (Nat.le_refl _) _
 obtain ⟨ao, gb, cap, rfl, hcells⟩ := rules_at hv
 have HOK : Hid _ := hok
 have HC : Hid _ := hcells
 have IH : Hid (AllCalls of n) := ih
 have HOF : Hid (of.length = 26) := hof
 generalize hR : cleanL (cleanF of n) of g l = R
 have HR : Hid (cleanL (cleanF of n) of g l = R) := hR
 clear hcells hok ih hR hv
 go_enter Tryz.func53, Tryz.ntmps53
 go_wp2_with fail
 go_loopw [15] (fun x w' => ∃ (k : Nat), x = .int .i64 k ∧ k ≤ l.length ∧ Hid (BoxAt w' w.heap.size of) ∧ Hid (Below w.heap.size w w') ∧ Hid (cleanL (cleanF of n) of g (l.drop k) = R)) (fun x _ => l.length - (intOf x).toNat)
 case atStart => exact ⟨0, rfl, by omega, hb0, hw0, HR⟩
 case round =>
  obtain ⟨k, rfl, hk, HB, HW, HL⟩ := hrel
  by_cases hlt : k < l.length
  ·have tk : decide ((k : Int) < (l.length : Int)) = true := by simp; omega
   obtain ⟨e0, hgb, cs, hru, hcs⟩ := HC.out k hlt
   obtain ⟨okc, ok1, ok2⟩ := HOK.out l[k] (List.getElem_mem hlt)
   have hstep := HL.out
   rw [List.drop_eq_getElem_cons hlt] at hstep
   generalize hq : l[k] = q at *
   obtain ⟨c, l1, l2⟩ := q
   obtain ⟨ve, v1, v2, hcs0, hpe, hr1, hr2⟩ := hru
   subst hcs0
   simp only at hpe hr1 hr2 okc ok1 ok2
   obtain ⟨ae, ne, ce, hve⟩ : ∃ aa nn cc, ve = .slice aa nn cc := by
    rcases Joins.ownsRow_forms hpe.1 with ⟨rfl, _⟩ | ⟨g, cap, rfl⟩ <;> exact ⟨_, _, _, rfl⟩
   obtain ⟨a1, n1, c1, hv1⟩ := rulesV_form hr1
   obtain ⟨a2, n2, c2, hv2⟩ := rulesV_form hr2
   have hEV : ve = .slice ae ne ce ∧ v1 = .slice a1 n1 c1 ∧ v2 = .slice a2 n2 c2 := ⟨hve, hv1, hv2⟩
   clear hve hv1 hv2
   obtain ⟨rfl, rfl, rfl⟩ := hEV
   have hz : w.heap.size < wr.heap.size := HB.out.lt
   have hne : ¬ w.heap.size = wr.heap.size := by omega
   have d : ∀ j, j < 8 → wr.cell? ⟨gb, k * 8 + j, none⟩ = (coreV c ++ [.slice ae ne ce, .slice a1 n1 c1, .slice a2 n2 c2])[j]? := fun j hj => (HW.out.cell (p := ⟨gb, k * 8 + j, none⟩) hgb).trans (hcs j hj)
   have d0 : wr.cell? ⟨gb, k * 8, none⟩ = some (.int .i64 c.kind) := d 0 (by omega)
   have d1 : wr.cell? ⟨gb, k * 8 + 1, none⟩ = some (.int .i64 c.place) := d 1 (by omega)
   have d2 : wr.cell? ⟨gb, k * 8 + 2, none⟩ = some (.int .i64 c.name) := d 2 (by omega)
   have d3 : wr.cell? ⟨gb, k * 8 + 3, none⟩ = some (.int .i64 c.label) := d 3 (by omega)
   have d4 : wr.cell? ⟨gb, k * 8 + 4, none⟩ = some (.int .i64 c.count) := d 4 (by omega)
   have d5 : wr.cell? ⟨gb, k * 8 + 5, none⟩ = some (.slice ae ne ce) := d 5 (by omega)
   have d6 : wr.cell? ⟨gb, k * 8 + 6, none⟩ = some (.slice a1 n1 c1) := d 6 (by omega)
   have d7 : wr.cell? ⟨gb, k * 8 + 7, none⟩ = some (.slice a2 n2 c2) := d 7 (by omega)
   subst e0
   have HS : Hid _ := hstep
   have OKC : Hid (CoreOk c) := okc
   have OK1 : Hid (TreeOk n l1) := ok1
   have OK2 : Hid (TreeOk n l2) := ok2
   have HPE : Hid (PartsV w P (.slice ae ne ce) c.parts) := hpe
   have HR1 : Hid (RulesV n w P (.slice a1 n1 c1) l1) := hr1
   have HR2 : Hid (RulesV n w P (.slice a2 n2 c2) l2) := hr2
   have hL := labL_lt h16 c.parts 0 (by omega)
   have hpl := okc.place
   clear hstep okc ok1 ok2 hpe hr1 hr2 hcs d hq
   have hbx1 : BoxAt (wr.alloc (.cells #[.int .i64 c.kind, .int .i64 c.place, .int .i64 c.name, .int .i64 c.label, .int .i64 c.count, .slice ae ne ce, .slice a1 n1 c1, .slice a2 n2 c2] 149)) w.heap.size of := HB.out.keep (K := wr.heap.size) ((Below.refl _ _).alloc (Nat.le_refl _) _) hz
   have HBX1 : Hid _ := hbx1
   clear hbx1
   go_wp2_with (refine wpList_load_row rfl 69 (.tmp 5) rfl w.heap.size rfl 69 (arrV of) (0, 0) _ HBX1.out Tryz.underlying69 rfl (by rw [infoArr, hsz]) ?_)
   refine (isClean_at of g c P _ _ _ _ HOF.out h16 hg OKC.out (partsV_below HPE.out (HW.out.alloc (by omega) _))).mono ?_
   rintro e w1 ⟨rfl, hb1⟩
   have HW1 : Hid (Below w.heap.size w w1) := (HW.out.alloc (by omega) _).trans (hb1.mono (by simp; omega))
   have HBX2 : Hid (BoxAt w1 w.heap.size of) := BoxAt.keep HBX1.out hb1 (by simp; omega)
   have q1 : w1.cell? ⟨wr.heap.size, 1, none⟩ = some (.int .i64 c.place) := by rw [hb1.cell (by simp)]; simp [go_sem]
   have q5 : w1.cell? ⟨wr.heap.size, 5, none⟩ = some (.slice ae ne ce) := by rw [hb1.cell (by simp)]; simp [go_sem]
   have q6 : w1.cell? ⟨wr.heap.size, 6, none⟩ = some (.slice a1 n1 c1) := by rw [hb1.cell (by simp)]; simp [go_sem]
   have q7 : w1.cell? ⟨wr.heap.size, 7, none⟩ = some (.slice a2 n2 c2) := by rw [hb1.cell (by simp)]; simp [go_sem]
   have hz1 : wr.heap.size < w1.heap.size := by have := hb1.size; simp at this; omega
   clear hb1 HBX1 HB HW d0 d1 d2 d3 d4 d5 d6 d7
   cases hcl : cleanT of g c
   ·have HF : Hid (some c.place = R) := by show _ = _; have := HS.out; rw [cleanL_bad hcl] at this; exact this
    go_wp2_with fail
    go_ret2
    exact ⟨ret_res HF.out, HW1.out⟩
   ·go_wp2_with (refine wpList_load_row rfl 69 (.tmp 5) rfl w.heap.size rfl 69 (arrV of) (0, 0) _ HBX2.out Tryz.underlying69 rfl (by rw [infoArr, hsz]) ?_)
    refine (labelOf_any of c.parts P _ _ HOF.out h16 OKC.out.few OKC.out.parts (partsV_below HPE.out HW1.out)).mono ?_
    rintro e w2 ⟨rfl, hb2⟩
    generalize hLe : labL of c.parts 0 = L at *
    have HLe : Hid (labL of c.parts 0 = L) := hLe
    have hgl := i64_or_nat g L (by omega) (by omega)
    have hgl16 := or_lt16 hg hL
    have HW2 : Hid (Below w.heap.size w w2) := HW1.out.trans (hb2.mono (by omega))
    have HBX3 : Hid (BoxAt w2 w.heap.size of) := HBX2.out.keep hb2 (by omega)
    rw [← hb2.cell (p := ⟨wr.heap.size, 6, none⟩) hz1] at q6
    rw [← hb2.cell (p := ⟨wr.heap.size, 7, none⟩) hz1] at q7
    have hz2 : wr.heap.size < w2.heap.size := by have := hb2.size; omega
    clear hb2 HBX2 HW1 q1 q5 hLe
    generalize hAe : g ||| L = A at *
    have HAe : Hid (g ||| labL of c.parts 0 = A) := by show _ = _; rw [HLe.out]; exact hAe
    clear hAe
    go_wp2_with (refine wpList_load_row rfl 69 (.tmp 5) rfl w.heap.size rfl 69 (arrV of) (0, 0) _ HBX3.out Tryz.underlying69 rfl (by rw [infoArr, hsz]) ?_)
    refine (IH.out A l1 P _ _ hgl16 OK1.out (rulesV_below HR1.out HW2.out)).mono ?_
    rintro e w3 ⟨rfl, hb3⟩
    have HW3 : Hid (Below w.heap.size w w3) := HW2.out.trans (hb3.mono (by omega))
    have HBX4 : Hid (BoxAt w3 w.heap.size of) := HBX3.out.keep hb3 (by omega)
    rw [← hb3.cell (p := ⟨wr.heap.size, 7, none⟩) hz2] at q7
    clear hb3 HBX3 HW2 q6
    cases hx : cleanF of n A l1 with
    | some p =>
     have HF : Hid (some p = R) := by show _ = _; have := HS.out; rw [cleanL_first hcl (by rw [HAe.out]; exact hx)] at this; exact this
     simp only [resV, Option.getD_some, Option.isNone_some]
     go_wp2_with fail
     go_ret2
     exact ⟨ret_res HF.out, HW3.out⟩
    | none =>
     simp only [resV, Option.getD_none, Option.isNone_none]
     go_wp2_with (refine wpList_load_row rfl 69 (.tmp 5) rfl w.heap.size rfl 69 (arrV of) (0, 0) _ HBX4.out Tryz.underlying69 rfl (by rw [infoArr, hsz]) ?_)
     refine (IH.out A l2 P _ _ hgl16 OK2.out (rulesV_below HR2.out HW3.out)).mono ?_
     rintro e w4 ⟨rfl, hb4⟩
     have hz3 : w.heap.size < w3.heap.size := HBX4.out.lt
     have HW4 : Hid (Below w.heap.size w w4) := HW3.out.trans (hb4.mono (by omega))
     have HBX5 : Hid (BoxAt w4 w.heap.size of) := HBX4.out.keep hb4 hz3
     clear hb4 HBX4 HW3 q7
     cases hy : cleanF of n A l2 with
     | some p =>
      have HF : Hid (some p = R) := by show _ = _; have := HS.out; rw [cleanL_second hcl (by rw [HAe.out]; exact hx) (by rw [HAe.out]; exact hy)] at this; exact this
      simp only [resV, Option.getD_some, Option.isNone_some]
      go_wp2_with fail
      go_ret2
      exact ⟨ret_res HF.out, HW4.out⟩
     | none =>
      have HF : Hid (cleanL (cleanF of n) of g (l.drop (k + 1)) = R) := by show _ = _; have := HS.out; rw [cleanL_next hcl (by rw [HAe.out]; exact hx) (by rw [HAe.out]; exact hy)] at this; exact this
      simp only [resV, Option.getD_none, Option.isNone_none]
      go_wp2_with fail
      go_roundw
      case rel => exact ⟨k + 1, by go_num, by omega, HBX5, HW4, HF⟩
      case measure => simp [intOf]; omega
  ·have tk : decide ((k : Int) < (l.length : Int)) = false := by simp; omega
   have hfin : none = R := by
    have := HL.out
    rw [List.drop_of_length_le (by omega)] at this
    exact this
   have HF : Hid _ := hfin
   clear hfin
   go_wp2_with fail
   go_ret2
   refine ⟨?_, HW.out⟩
   rw [← HF.out]
   rfl
theorem all_succ (of : List Nat) (hof : of.length = 26) (h16 : ∀ x ∈ of, x < 16) (n : Nat) (ih : AllCalls of n) : AllCalls of (n + 1) :=
 fun g l P v w hg ht hv => all_step of hof h16 n ih g l P v w hg ht.1 ht.2 hv
theorem allClean_any (of : List Nat) (hof : of.length = 26) (h16 : ∀ x ∈ of, x < 16) : ∀ n, AllCalls of n
 | 0 => all_zero of hof
 | n + 1 => all_succ of hof h16 n (allClean_any of hof h16 n)
end Go.Proofs.YtdgmoiflahoihaaGreatDoor
namespace Go.Proofs.YtdgmoiflahoihaaGreatDoor
open Go.RowKit
set_option linter.unusedSimpArgs false
set_option linter.unusedVariables false
def workT {α : Type} (rec : List α → Nat) (q : Core × List α × List α) : Nat :=
 if q.1.kind = 4 then 1 + q.1.count.toNat * (1 + rec q.2.1) else 1 + q.1.parts.length + rec q.2.1 + rec q.2.2
def workL {α : Type} (rec : List α → Nat) : List (Core × List α × List α) → Nat
 | [] => 0
 | q :: r => workT rec q + workL rec r
def workS (n : Nat) : List (RT n) → Nat :=
 match n with
 | 0 => fun _ => 0
 | n + 1 => fun l => workL (workS n) l
def WorkCalls (n : Nat) : Prop := ∀ (l : List (RT n)) (P : Nat → Prop) (v : Value) (w : World), TreeOk n l → workS n l < 1099511627776 → RulesV n w P v l →
 Calls Tryz.prog 51 #[v] w fun e w' => e = .returned (.int .i64 (workS n l : Nat)) ∧ Below w.heap.size w w'
set_option maxRecDepth 100000 in
set_option maxHeartbeats 1000000 in
theorem work_zero : WorkCalls 0 := by
 intro l P v w ht hw hv
 obtain ⟨ao, cap, rfl⟩ : ∃ ao cap, v = .slice ao 0 cap := by
  rcases Joins.ownsRow_forms hv.1 with ⟨rfl, _⟩ | ⟨g, cap, rfl⟩ <;> exact ⟨_, _, rfl⟩
 clear hv
 show Calls _ _ _ _ fun e w' => e = .returned (.int .i64 0) ∧ _
 go_enter Tryz.func51, Tryz.ntmps51
 go_wp2_with fail
 go_loopw [3, 8] (fun x y w' => x = .int .i64 0 ∧ y = .int .i64 0 ∧ Below w.heap.size w w') (fun _ _ _ => 0)
 case atStart => exact ⟨rfl, rfl, Below.refl _ _⟩
 case round =>
  obtain ⟨rfl, rfl, hb⟩ := hrel
  go_wp2_with fail
  go_ret
  exact ⟨rfl, hb⟩
set_option maxRecDepth 100000 in
set_option maxHeartbeats 1000000 in
theorem workOf_step (n : Nat) (ih : WorkCalls n) (q : Core × List (RT n) × List (RT n)) (P : Nat → Prop) (ve v1 v2 : Value) (w : World) (hc : CoreOk q.1) (h1 : TreeOk n q.2.1) (h2 : TreeOk n q.2.2) (hw : workT (workS n) q < 1099511627776)
  (hve : PartsV w P ve q.1.parts) (hr1 : RulesV n w P v1 q.2.1) (hr2 : RulesV n w P v2 q.2.2) :
  Calls Tryz.prog 85 #[.agg #[.int .i64 q.1.kind, .int .i64 q.1.place, .int .i64 q.1.name, .int .i64 q.1.label, .int .i64 q.1.count, ve, v1, v2]] w fun e w' => e = .returned (.int .i64 (workT (workS n) q : Nat)) ∧ Below w.heap.size w w' := by
 obtain ⟨c, l1, l2⟩ := q
 simp only at *
 have hB1 : Below w.heap.size w (w.alloc (.cells #[.int .i64 c.kind, .int .i64 c.place, .int .i64 c.name, .int .i64 c.label, .int .i64 c.count, ve, v1, v2] 149)) := (Below.refl _ _).alloc (Nat.le_refl _) _
 go_enter Tryz.func85, Tryz.ntmps85
 go_wp2_with fail
 have hlt0 : w.heap.size < (w.alloc (.cells #[.int .i64 c.kind, .int .i64 c.place, .int .i64 c.name, .int .i64 c.label, .int .i64 c.count, ve, v1, v2] 149)).heap.size := by simp
 have w1l : workS n l1 < 1099511627776 := by
  unfold workT at hw
  simp only at hw
  split at hw
  ·rename_i h4
   have h5 := hc.once h4
   have h6 : 1 ≤ c.count.toNat := by omega
   have h7 : 1 + workS n l1 ≤ c.count.toNat * (1 + workS n l1) := Nat.le_mul_of_pos_left _ h6
   omega
  ·omega
 generalize hW1 : workS n l1 = x at *
 have HW1 : Hid (workS n l1 = x) := hW1
 clear hW1
 refine (ih l1 P v1 _ h1 (by rw [HW1.out]; exact w1l) (rulesV_below hr1 hB1)).mono ?_
 rw [HW1.out]
 rintro e w1 ⟨rfl, hb1⟩
 have hW : Below w.heap.size w w1 := hB1.trans (hb1.mono (by omega))
 have q0 : w1.cell? ⟨w.heap.size, 0, none⟩ = some (.int .i64 c.kind) := by rw [hb1.cell hlt0]; simp [go_sem]
 have q4 : w1.cell? ⟨w.heap.size, 4, none⟩ = some (.int .i64 c.count) := by rw [hb1.cell hlt0]; simp [go_sem]
 have q5 : w1.cell? ⟨w.heap.size, 5, none⟩ = some ve := by rw [hb1.cell hlt0]; simp [go_sem]
 have q7 : w1.cell? ⟨w.heap.size, 7, none⟩ = some v2 := by rw [hb1.cell hlt0]; simp [go_sem]
 have hz1 : w.heap.size < w1.heap.size := by have := hb1.size; omega
 have HW : Hid (Below w.heap.size w w1) := hW
 obtain ⟨c0, c9⟩ := hc.count
 have hpl := hc.few
 clear hW hb1 hB1
 by_cases h4 : c.kind = 4
 ·have hT : workT (workS n) (c, l1, l2) = 1 + c.count.toNat * (1 + x) := by unfold workT; rw [if_pos h4, HW1.out]
  have HT : Hid _ := hT
  rw [hT] at hw
  clear hT
  rw [h4] at q0
  generalize hcn : c.count = cn at *
  obtain ⟨cnt, rfl⟩ : ∃ cnt : Nat, cn = cnt := ⟨cn.toNat, by omega⟩
  have HCN : Hid _ := hcn
  clear hcn
  simp only [Int.toNat_natCast] at hw HT
  have hm : ((cnt : Int) * (1 + (x : Int))) = ((cnt * (1 + x) : Nat) : Int) := by simp [Int.natCast_mul, Int.natCast_add]
  generalize hpr : cnt * (1 + x) = pr at *
  have hmr : (cnt : Int) * (1 + (x : Int)) ≤ 1099511627776 := by rw [hm]; omega
  have hml : 0 ≤ (cnt : Int) * (1 + (x : Int)) := by rw [hm]; omega
  have HM : Hid _ := hm
  clear hm hpr hw
  go_wp2_with fail
  go_ret
  refine ⟨ret_int ?_, HW.out⟩
  rw [HT.out, HM.out]
  omega
 ·have hT : workT (workS n) (c, l1, l2) = 1 + c.parts.length + x + workS n l2 := by unfold workT; rw [if_neg h4, HW1.out]
  have HT : Hid _ := hT
  rw [hT] at hw
  clear hT
  have t4 : (c.kind == 4) = false := by simpa using h4
  generalize hW2 : workS n l2 = y at *
  have HW2 : Hid (workS n l2 = y) := hW2
  clear hW2
  obtain ⟨ae, g, cap, rfl, _⟩ := parts_form hve
  go_wp2_with fail
  refine (ih l2 P v2 _ h2 (by rw [HW2.out]; omega) (rulesV_below hr2 HW.out)).mono ?_
  rw [HW2.out]
  rintro e w2 ⟨rfl, hb2⟩
  rw [← hb2.cell (p := ⟨w.heap.size, 5, none⟩) hz1] at q5
  have HW3 : Hid (Below w.heap.size w w2) := HW.out.trans (hb2.mono (by omega))
  clear hb2 q0 q4 q7 HW
  go_wp2_with fail
  go_ret
  refine ⟨ret_int ?_, HW3.out⟩
  rw [HT.out]
  omega
theorem workL_cons {α : Type} (rec : List α → Nat) (q : Core × List α × List α) (r : List (Core × List α × List α)) : workL rec (q :: r) = workT rec q + workL rec r := rfl
set_option maxRecDepth 100000 in
set_option maxHeartbeats 1000000 in
theorem work_step2 (n : Nat) (ih : WorkCalls n) (l : List (Core × List (RT n) × List (RT n))) (P : Nat → Prop) (v : Value) (w : World) (hl : l.length ≤ 1000) (hok : ∀ q ∈ l, CoreOk q.1 ∧ TreeOk n q.2.1 ∧ TreeOk n q.2.2) (hw : workL (workS n) l < 1099511627776)
  (hv : RowsC (fun cs q => RuleC (RulesV n w P) w P cs q) w P v l) :
  Calls Tryz.prog 51 #[v] w fun e w' => e = .returned (.int .i64 (workL (workS n) l : Nat)) ∧ Below w.heap.size w w' := by
 obtain ⟨ao, gb, cap, rfl, hcells⟩ := rules_at hv
 have HOK : Hid _ := hok
 have HC : Hid _ := hcells
 have IH : Hid (WorkCalls n) := ih
 generalize hR : workL (workS n) l = R at *
 have HR : Hid (0 + workL (workS n) l = R) := by show _ = _; omega
 clear hcells hok ih hR hv
 go_enter Tryz.func51, Tryz.ntmps51
 go_wp2_with fail
 go_loopw [3, 8] (fun x y w' => ∃ (k a : Nat), y = .int .i64 k ∧ x = .int .i64 a ∧ k ≤ l.length ∧ a < 1099511627776 ∧ Hid (Below w.heap.size w w') ∧ Hid (a + workL (workS n) (l.drop k) = R)) (fun _ y _ => l.length - (intOf y).toNat)
 case atStart => exact ⟨0, 0, rfl, rfl, by omega, by omega, Below.refl _ _, HR⟩
 case round =>
  obtain ⟨k, a, rfl, rfl, hk, ha, HW, HL⟩ := hrel
  by_cases hlt : k < l.length
  ·have tk : decide ((k : Int) < (l.length : Int)) = true := by simp; omega
   obtain ⟨e0, hgb, cs, hru, hcs⟩ := HC.out k hlt
   obtain ⟨okc, ok1, ok2⟩ := HOK.out l[k] (List.getElem_mem hlt)
   have hstep := HL.out
   rw [List.drop_eq_getElem_cons hlt, workL_cons] at hstep
   generalize hq : l[k] = q at *
   obtain ⟨ve, v1, v2, hcs0, hpe, hr1, hr2⟩ := hru
   subst hcs0
   obtain ⟨ae, ne, ce, hve⟩ : ∃ aa nn cc, ve = .slice aa nn cc := by
    rcases Joins.ownsRow_forms hpe.1 with ⟨rfl, _⟩ | ⟨g, cap, rfl⟩ <;> exact ⟨_, _, _, rfl⟩
   obtain ⟨a1, n1, c1, hv1⟩ := rulesV_form hr1
   obtain ⟨a2, n2, c2, hv2⟩ := rulesV_form hr2
   have hEV : ve = .slice ae ne ce ∧ v1 = .slice a1 n1 c1 ∧ v2 = .slice a2 n2 c2 := ⟨hve, hv1, hv2⟩
   clear hve hv1 hv2
   obtain ⟨rfl, rfl, rfl⟩ := hEV
   have d : ∀ j, j < 8 → wr.cell? ⟨gb, k * 8 + j, none⟩ = (coreV q.1 ++ [.slice ae ne ce, .slice a1 n1 c1, .slice a2 n2 c2])[j]? := fun j hj => (HW.out.cell (p := ⟨gb, k * 8 + j, none⟩) hgb).trans (hcs j hj)
   have d0 : wr.cell? ⟨gb, k * 8, none⟩ = some (.int .i64 q.1.kind) := d 0 (by omega)
   have d1 : wr.cell? ⟨gb, k * 8 + 1, none⟩ = some (.int .i64 q.1.place) := d 1 (by omega)
   have d2 : wr.cell? ⟨gb, k * 8 + 2, none⟩ = some (.int .i64 q.1.name) := d 2 (by omega)
   have d3 : wr.cell? ⟨gb, k * 8 + 3, none⟩ = some (.int .i64 q.1.label) := d 3 (by omega)
   have d4 : wr.cell? ⟨gb, k * 8 + 4, none⟩ = some (.int .i64 q.1.count) := d 4 (by omega)
   have d5 : wr.cell? ⟨gb, k * 8 + 5, none⟩ = some (.slice ae ne ce) := d 5 (by omega)
   have d6 : wr.cell? ⟨gb, k * 8 + 6, none⟩ = some (.slice a1 n1 c1) := d 6 (by omega)
   have d7 : wr.cell? ⟨gb, k * 8 + 7, none⟩ = some (.slice a2 n2 c2) := d 7 (by omega)
   subst e0
   have hz : w.heap.size ≤ wr.heap.size := HW.out.size
   have OKC : Hid (CoreOk q.1) := okc
   have OK1 : Hid (TreeOk n q.2.1) := ok1
   have OK2 : Hid (TreeOk n q.2.2) := ok2
   have HPE : Hid (PartsV w P (.slice ae ne ce) q.1.parts) := hpe
   have HR1 : Hid (RulesV n w P (.slice a1 n1 c1) q.2.1) := hr1
   have HR2 : Hid (RulesV n w P (.slice a2 n2 c2) q.2.2) := hr2
   generalize hT : workT (workS n) q = t at *
   have HT : Hid (workT (workS n) q = t) := hT
   have hat : a + t < 1099511627776 := by omega
   have HS : Hid (a + t + workL (workS n) (l.drop (k + 1)) = R) := by show _ = _; omega
   clear hstep okc ok1 ok2 hpe hr1 hr2 hcs d hq hT
   go_wp2_with fail
   have hBA := HW.out.alloc (by omega) (.cells #[.int .i64 q.1.kind, .int .i64 q.1.place, .int .i64 q.1.name, .int .i64 q.1.label, .int .i64 q.1.count, .slice ae ne ce, .slice a1 n1 c1, .slice a2 n2 c2] 149)
   refine (workOf_step n IH.out q P _ _ _ _ OKC.out OK1.out OK2.out (by rw [HT.out]; omega) (partsV_below HPE.out hBA) (rulesV_below HR1.out hBA) (rulesV_below HR2.out hBA)).mono ?_
   rw [HT.out]
   rintro e w1 ⟨rfl, hb1⟩
   have HW1 : Hid (Below w.heap.size w w1) := hBA.trans (hb1.mono (by simp; omega))
   clear hb1 hBA HW d0 d1 d2 d3 d4 d5 d6 d7
   go_wp2_with fail
   go_roundw
   case rel => exact ⟨k + 1, a + t, by go_num, by go_num, by omega, hat, HW1, HS⟩
   case measure => simp [intOf]; omega
  ·have tk : decide ((k : Int) < (l.length : Int)) = false := by simp; omega
   have hfin : a = R := by
    have := HL.out
    rw [List.drop_of_length_le (by omega)] at this
    exact this
   have HF : Hid _ := hfin
   clear hfin
   go_wp2_with fail
   go_ret
   exact ⟨ret_int (by rw [HF.out]), HW.out⟩
theorem work_succ (n : Nat) (ih : WorkCalls n) : WorkCalls (n + 1) :=
 fun l P v w ht hw hv => work_step2 n ih l P v w ht.1 ht.2 hw hv
theorem workOfAll_any : ∀ n, WorkCalls n
 | 0 => work_zero
 | n + 1 => work_succ n (workOfAll_any n)
end Go.Proofs.YtdgmoiflahoihaaGreatDoor
namespace Go.Proofs.YtdgmoiflahoihaaGreatDoor
open Go.RowKit
set_option linter.unusedSimpArgs false
set_option linter.unusedVariables false
def HeadCells (w : World) (ao : Option Addr) (g : Nat) (l : List Hd) : Prop := ∀ i, ∀ hi : i < l.length, ao = some ⟨g, 0, none⟩ ∧ g < w.heap.size ∧
 w.cell? ⟨g, i * 4, none⟩ = some (.bool l[i].field) ∧ w.cell? ⟨g, i * 4 + 1, none⟩ = some (.int .i64 l[i].place) ∧ w.cell? ⟨g, i * 4 + 2, none⟩ = some (.int .i64 l[i].name) ∧ w.cell? ⟨g, i * 4 + 3, none⟩ = some (.int .i64 l[i].label)
theorem hdCells_at (l : List Hd) : ∀ (i : Nat) (h : i < l.length), (hdCells l)[i * 4]? = some (.bool l[i].field) ∧ (hdCells l)[i * 4 + 1]? = some (.int .i64 l[i].place) ∧ (hdCells l)[i * 4 + 2]? = some (.int .i64 l[i].name) ∧ (hdCells l)[i * 4 + 3]? = some (.int .i64 l[i].label) := by
 induction l with
 | nil => intro i h; cases h
 | cons p r ih =>
  intro i h
  cases i with
  | zero => simp [hdCells, hdV]
  | succ i =>
   have := ih i (by simpa using h)
   rw [show (i + 1) * 4 = i * 4 + 1 + 1 + 1 + 1 by omega]
   simpa [hdCells, hdV] using this
theorem heads_form {w : World} {P : Nat → Prop} {v : Value} {l : List Hd} (h : HeadsV w P v l) : ∃ ao g cap, v = .slice ao l.length cap ∧ l.length ≤ cap ∧ HeadCells w ao g l := by
 obtain ⟨ho, _⟩ := h
 rcases ho.2 with ⟨rfl, h0⟩ | ⟨g, cap, cur, rfl, hb, hg, hc, hm, hcs, ht⟩
 ·exact ⟨none, 0, 0, by rw [h0], by omega, fun i hi => absurd hi (by omega)⟩
 ·refine ⟨some ⟨g, 0, none⟩, g, cap, rfl, hc, fun i hi => ⟨rfl, (ho.lt g rfl).2, ?_, ?_, ?_, ?_⟩⟩
  ·rw [ho.cellAt (i * 4) (by omega)]; exact (hdCells_at l i hi).1
  ·rw [ho.cellAt (i * 4 + 1) (by omega)]; exact (hdCells_at l i hi).2.1
  ·rw [ho.cellAt (i * 4 + 2) (by omega)]; exact (hdCells_at l i hi).2.2.1
  ·rw [ho.cellAt (i * 4 + 3) (by omega)]; exact (hdCells_at l i hi).2.2.2
theorem HeadCells.below {w w' : World} {ao : Option Addr} {g : Nat} {l : List Hd} (h : HeadCells w ao g l) (hb : Below w.heap.size w w') : HeadCells w' ao g l := by
 intro i hi
 obtain ⟨e, hg, c0, c1, c2, c3⟩ := h i hi
 exact ⟨e, Nat.lt_of_lt_of_le hg hb.size, (hb.cell hg).trans c0, (hb.cell hg).trans c1, (hb.cell hg).trans c2, (hb.cell hg).trans c3⟩
theorem HeadCells.take {w : World} {ao : Option Addr} {g : Nat} {l : List Hd} (h : HeadCells w ao g l) (k : Nat) : HeadCells w ao g (l.take k) := by
 intro i hi
 have := h i (by simp at hi; omega)
 simpa using this
def hasN (l : List Hd) (name : Int) : Bool := l.any fun h => decide (h.name = name)
theorem hasN_cons (h : Hd) (r : List Hd) (name : Int) : hasN (h :: r) name = (decide (h.name = name) || hasN r name) := rfl
set_option maxRecDepth 100000 in
set_option maxHeartbeats 1000000 in
theorem hasName_any (l : List Hd) (ao : Option Addr) (g cap : Nat) (name : Int) (w : World) (hl : l.length ≤ 1000) (hv : HeadCells w ao g l) :
  Calls Tryz.prog 84 #[.slice ao l.length cap, .int .i64 name] w fun e w' => e = .returned (.bool (hasN l name)) ∧ Below w.heap.size w w' := by
 have HC : Hid _ := hv
 clear hv
 go_enter Tryz.func84, Tryz.ntmps84
 go_wp2_with fail
 go_loopw [9] (fun x w' => ∃ (k : Nat), x = .int .i64 k ∧ k ≤ l.length ∧ Hid (Below w.heap.size w w') ∧ Hid (hasN (l.drop k) name = hasN l name)) (fun x _ => l.length - (intOf x).toNat)
 case atStart => exact ⟨0, rfl, by omega, Below.refl _ _, rfl⟩
 case round =>
  obtain ⟨k, rfl, hk, HW, HL⟩ := hrel
  by_cases hlt : k < l.length
  ·have tk : decide ((k : Int) < (l.length : Int)) = true := by simp; omega
   obtain ⟨e0, hg, c0, c1, c2, c3⟩ := HC.out k hlt
   rw [← HW.out.cell hg] at c0 c1 c2 c3
   have hz : w.heap.size ≤ wr.heap.size := HW.out.size
   have hstep := HL.out
   rw [List.drop_eq_getElem_cons hlt, hasN_cons] at hstep
   subst e0
   generalize l[k] = hd at *
   by_cases hn : hd.name = name
   ·have HF : Hid (true = hasN l name) := by show _ = _; rw [← hstep, hn]; simp
    have tn : (hd.name == name) = true := by simpa using hn
    clear hstep
    go_wp2_with fail
    go_ret
    exact ⟨ret_boolR HF.out, HW.out.alloc hz _⟩
   ·have HF : Hid (hasN (l.drop (k + 1)) name = hasN l name) := by show _ = _; rw [← hstep]; simp [hn]
    have tn : (hd.name == name) = false := by simpa using hn
    clear hstep
    go_wp2_with fail
    go_roundw
    case rel => exact ⟨k + 1, by go_num, by omega, HW.out.alloc hz _, HF⟩
    case measure => simp [intOf]; omega
  ·have tk : decide ((k : Int) < (l.length : Int)) = false := by simp; omega
   have HF : Hid (false = hasN l name) := by
    show _ = _
    have := HL.out
    rw [List.drop_of_length_le (by omega)] at this
    exact this
   go_wp2_with fail
   go_ret
   exact ⟨ret_boolR HF.out, HW.out⟩
theorem hasName_k (l : List Hd) (ao : Option Addr) (g k cap : Nat) (name : Int) (r : Bool) (w : World) (hk : l.length = k) (hl : l.length ≤ 1000) (hr : hasN l name = r) (hv : HeadCells w ao g l) :
  Calls Tryz.prog 84 #[.slice ao k cap, .int .i64 name] w fun e w' => e = .returned (.bool r) ∧ Below w.heap.size w w' := by
 subst hk hr
 exact hasName_any l ao g cap name w hl hv
def twiceL (pre : List Hd) : List Hd → Option Nat
 | [] => none
 | h :: r => if hasN pre h.name then some h.place else twiceL (pre ++ [h]) r
theorem twiceL_cons (pre : List Hd) (h : Hd) (r : List Hd) : twiceL pre (h :: r) = if hasN pre h.name then some h.place else twiceL (pre ++ [h]) r := rfl
set_option maxRecDepth 100000 in
set_option maxHeartbeats 1000000 in
theorem headsDiffer_any (l : List Hd) (P : Nat → Prop) (v : Value) (w : World) (hl : l.length ≤ 1000) (hv : HeadsV w P v l) :
  Calls Tryz.prog 50 #[v] w fun e w' => e = .returned (resV (twiceL [] l)) ∧ Below w.heap.size w w' := by
 obtain ⟨ao, g, cap, rfl, hcap, hcells⟩ := heads_form hv
 clear hv
 have HC : Hid _ := hcells
 clear hcells
 go_enter Tryz.func50, Tryz.ntmps50
 go_wp2_with fail
 go_loopw [8] (fun x w' => ∃ (k : Nat), x = .int .i64 k ∧ k ≤ l.length ∧ Hid (Below w.heap.size w w') ∧ Hid (twiceL (l.take k) (l.drop k) = twiceL [] l)) (fun x _ => l.length - (intOf x).toNat)
 case atStart => exact ⟨0, rfl, by omega, Below.refl _ _, rfl⟩
 case round =>
  obtain ⟨k, rfl, hk, HW, HL⟩ := hrel
  by_cases hlt : k < l.length
  ·have tk : decide ((k : Int) < (l.length : Int)) = true := by simp; omega
   obtain ⟨e0, hg, c0, c1, c2, c3⟩ := HC.out k hlt
   rw [← HW.out.cell hg] at c0 c1 c2 c3
   have hz : w.heap.size ≤ wr.heap.size := HW.out.size
   have hstep := HL.out
   rw [List.drop_eq_getElem_cons hlt, twiceL_cons] at hstep
   have htk : l.take k ++ [l[k]] = l.take (k + 1) := by rw [List.take_succ_eq_append_getElem hlt]
   rw [htk] at hstep
   have hcells : HeadCells wr ao g (l.take k) := HeadCells.take (HeadCells.below HC.out HW.out) k
   have htl : (l.take k).length = k := by simp; omega
   subst e0
   generalize hhd : l[k] = hd at *
   have HS : Hid _ := hstep
   have HCK : Hid (HeadCells wr (some ⟨g, 0, none⟩) g (l.take k)) := hcells
   generalize hpre : l.take k = pre at *
   clear hstep htk hcells hhd hpre
   cases hh : hasN pre hd.name
   ·have HF : Hid (twiceL (l.take (k + 1)) (l.drop (k + 1)) = twiceL [] l) := by show _ = _; rw [← HS.out, hh]; rfl
    go_wp2_with fail
    go_region_with (go_at_call 84; refine (hasName_k pre _ g k cap hd.name false _ htl (by omega) hh (HeadCells.below HCK.out (((Below.refl _ _).alloc (Nat.le_refl _) _).drew))).mono ?_; rintro e w1 ⟨rfl, hb1⟩)
    all_goals go_wp2_with fail
    all_goals go_roundw
    all_goals (first | exact ⟨k + 1, by go_num, by omega, ((HW.out.alloc hz _).drew).trans (hb1.mono (by simp; omega)), HF⟩ | (simp [intOf]; omega))
   ·have HF : Hid (some hd.place = twiceL [] l) := by show _ = _; rw [← HS.out, hh]; rfl
    go_wp2_with fail
    go_region_with (go_at_call 84; refine (hasName_k pre _ g k cap hd.name true _ htl (by omega) hh (HeadCells.below HCK.out (((Below.refl _ _).alloc (Nat.le_refl _) _).drew))).mono ?_; rintro e w1 ⟨rfl, hb1⟩)
    all_goals (have q1 : w1.cell? ⟨wr.heap.size, 1, none⟩ = some (.int .i64 hd.place) := by rw [hb1.cell (by simp)]; simp [go_sem])
    all_goals go_wp2_with fail
    all_goals go_ret2
    all_goals exact ⟨ret_res HF.out, ((HW.out.alloc hz _).drew).trans (hb1.mono (by simp; omega))⟩
  ·have tk : decide ((k : Int) < (l.length : Int)) = false := by simp; omega
   have HF : Hid (none = twiceL [] l) := by
    show _ = _
    have := HL.out
    rw [List.drop_of_length_le (by omega)] at this
    exact this
   go_wp2_with fail
   go_ret2
   refine ⟨?_, HW.out⟩
   rw [← HF.out]
   rfl
end Go.Proofs.YtdgmoiflahoihaaGreatDoor
namespace Go.Proofs.YtdgmoiflahoihaaGreatDoor
open Go.RowKit
set_option linter.unusedSimpArgs false
set_option linter.unusedVariables false
abbrev LS := List Nat × Bool
def enlP (fx : List Bool) (st : LS) (k lab : Nat) : LS :=
 if fx.getD k false || goesB lab (st.1.getD k 0) then st else (st.1.set k (st.1.getD k 0 ||| lab), true)
def enlR {α : Type} (rec : LS → List α → Nat → LS) (fx : List Bool) (st : LS) (q : Core × List α × List α) (g : Nat) : LS :=
 if q.1.kind = 0 then enlP fx st q.1.name.toNat (g ||| labL st.1 q.1.parts 0)
 else if q.1.kind = 1 then enlP fx st q.1.name.toNat (g ||| q.1.label)
 else if q.1.kind = 3 ∨ q.1.kind = 4 then rec (rec st q.2.1 (g ||| labL st.1 q.1.parts 0)) q.2.2 (g ||| labL st.1 q.1.parts 0)
 else st
def enlL {α : Type} (rec : LS → List α → Nat → LS) (fx : List Bool) : LS → List (Core × List α × List α) → Nat → LS
 | st, [], _ => st
 | st, q :: r, g => enlL rec fx (enlR rec fx st q g) r g
def enlF (fx : List Bool) (n : Nat) : LS → List (RT n) → Nat → LS :=
 match n with
 | 0 => fun st _ _ => st
 | n + 1 => fun st l g => enlL (enlF fx n) fx st l g
structure OfOk (of : List Nat) : Prop where
 len : of.length = 26
 lt : ∀ x ∈ of, x < 16
theorem OfOk.set {of : List Nat} (h : OfOk of) (k m : Nat) (hm : m < 16) : OfOk (of.set k m) := by
 refine ⟨by simp [h.len], fun x hx => ?_⟩
 rcases List.mem_or_eq_of_mem_set hx with h1 | rfl
 ·exact h.lt x h1
 ·exact hm
theorem or_gt {a b : Nat} (h : ¬ a ||| b = b) : b < b ||| a := by
 have h1 : b ≤ b ||| a := Nat.left_le_or
 have h2 : b ≠ b ||| a := fun e => h (by rw [Nat.or_comm]; exact e.symm)
 omega
theorem sum_set (of : List Nat) : ∀ (k m : Nat), k < of.length → (of.set k m).sum + of.getD k 0 = of.sum + m := by
 induction of with
 | nil => intro k m h; cases h
 | cons a r ih =>
  intro k m h
  cases k with
  | zero => simp; omega
  | succ k =>
   have := ih k m (by simpa using h)
   simp at this ⊢
   omega
structure Grow (a b : LS) : Prop where
 ok : OfOk b.1
 le : a.1.sum ≤ b.1.sum
 more : b.2 = true → a.2 = true ∨ a.1.sum < b.1.sum
 same : a.2 = false → b.2 = false → b.1 = a.1
 keep : a.2 = true → b.2 = true
theorem Grow.refl {a : LS} (h : OfOk a.1) : Grow a a := ⟨h, Nat.le_refl _, .inl, fun _ _ => rfl, id⟩
theorem Grow.trans {a b c : LS} (h : Grow a b) (k : Grow b c) : Grow a c := by
 refine ⟨k.ok, Nat.le_trans h.le k.le, fun e => ?_, fun e1 e2 => ?_, fun e => k.keep (h.keep e)⟩
 ·rcases k.more e with h1 | h1
  ·rcases h.more h1 with h2 | h2
   ·exact .inl h2
   ·have := k.le; exact .inr (by omega)
  ·have := h.le; exact .inr (by omega)
 ·have hb : b.2 = false := by
   cases hb : b.2 with
   | false => rfl
   | true => rw [k.keep hb] at e2; cases e2
  rw [k.same hb e2, h.same e1 hb]
theorem enlP_grow {fx : List Bool} {st : LS} (h : OfOk st.1) {k lab : Nat} (hk : k < 26) (hl : lab < 16) : Grow st (enlP fx st k lab) := by
 unfold enlP
 split
 ·exact Grow.refl h
 ·rename_i hc
  have hg : goesB lab (st.1.getD k 0) = false := by
   cases hg : goesB lab (st.1.getD k 0) with
   | false => rfl
   | true => rw [hg] at hc; simp at hc
  have hne : ¬ lab ||| st.1.getD k 0 = st.1.getD k 0 := by simpa [goesB] using hg
  have h1 := or_gt hne
  have h2 := sum_set st.1 k (st.1.getD k 0 ||| lab) (by rw [h.len]; exact hk)
  have h3 := getD_lt h.lt k
  refine ⟨h.set k _ (or_lt16 h3 hl), ?_, fun _ => .inr ?_, fun _ e => (by cases e), fun _ => rfl⟩
  ·simp only; omega
  ·simp only; omega
def RecGrow {α : Type} (ok : List α → Prop) (rec : LS → List α → Nat → LS) : Prop := ∀ st l g, OfOk st.1 → ok l → g < 16 → Grow st (rec st l g)
theorem enlR_grow {α : Type} {ok : List α → Prop} {rec : LS → List α → Nat → LS} (hr : RecGrow ok rec) {fx : List Bool} {st : LS} (h : OfOk st.1) {q : Core × List α × List α} (hq : CoreOk q.1) (h1 : ok q.2.1) (h2 : ok q.2.2) {g : Nat} (hg : g < 16) : Grow st (enlR rec fx st q g) := by
 have hL := or_lt16 hg (labL_lt h.lt q.1.parts 0 (by omega))
 unfold enlR
 split
 ·rename_i hk
  obtain ⟨n0, n1⟩ := hq.name (.inl hk)
  exact enlP_grow h (by omega) hL
 split
 ·rename_i hk
  obtain ⟨n0, n1⟩ := hq.name (.inr hk)
  exact enlP_grow h (by omega) (or_lt16 hg hq.label)
 split
 ·have a := hr st q.2.1 _ h h1 hL
  exact a.trans (hr _ q.2.2 _ a.ok h2 hL)
 ·exact Grow.refl h
theorem enlL_grow {α : Type} {ok : List α → Prop} {rec : LS → List α → Nat → LS} (hr : RecGrow ok rec) {fx : List Bool} : ∀ (l : List (Core × List α × List α)) (st : LS) (g : Nat), OfOk st.1 → (∀ q ∈ l, CoreOk q.1 ∧ ok q.2.1 ∧ ok q.2.2) → g < 16 → Grow st (enlL rec fx st l g)
 | [], st, g, h, _, _ => Grow.refl h
 | q :: r, st, g, h, hq, hg => by
  obtain ⟨a, b, c⟩ := hq q (by simp)
  have k := enlR_grow hr (fx := fx) h a b c hg
  exact k.trans (enlL_grow hr r _ g k.ok (fun x hx => hq x (by simp [hx])) hg)
theorem enlF_grow (fx : List Bool) : ∀ n, RecGrow (TreeOk n) (enlF fx n)
 | 0 => fun st l g h _ _ => Grow.refl h
 | n + 1 => fun st l g h hl hg => enlL_grow (enlF_grow fx n) l st g h hl.2 hg
theorem ofSum_le : ∀ (of : List Nat), (∀ x ∈ of, x < 16) → of.sum ≤ 15 * of.length
 | [], _ => by simp
 | a :: r, h => by
  have := ofSum_le r (fun x hx => h x (by simp [hx]))
  have := h a (by simp)
  simp
  omega
theorem OfOk.sum_le {of : List Nat} (h : OfOk of) : of.sum ≤ 390 := by
 have := ofSum_le of h.lt
 rw [h.len] at this
 exact this
def labLoop (fx : List Bool) (l : List (RT 9)) : Nat → List Nat → List Nat
 | 0, of => of
 | k + 1, of => if (enlF fx 9 (of, false) l 0).2 then labLoop fx l k (enlF fx 9 (of, false) l 0).1 else (enlF fx 9 (of, false) l 0).1
def headLab : List Hd → List Nat × List Bool → List Nat × List Bool
 | [], x => x
 | h :: r, x => headLab r (x.1.set h.name.toNat h.label, x.2.set h.name.toNat true)
def lab0 : List Nat × List Bool := (List.replicate 26 0, List.replicate 26 false)
def labelsP (hs : List Hd) (l : List (RT 9)) : List Nat := labLoop (headLab hs lab0).2 l 400 (headLab hs lab0).1
end Go.Proofs.YtdgmoiflahoihaaGreatDoor
