import Derived.Test.YtdgmoiflahoihabGreatDoorBAw
import Derived.Test.YtdgmoiflahoihabGreatDoorPlainw
import Derived.RegionTactic
import Derived.ChangeAlike
import Derived.Deep.RegionWith
import Derived.Deep.Cut
import Derived.Deep.CutRange
import Derived.Laws.BitsAllLaws
import Derived.Deep.QuietTactic
import Derived.BigQuiet
import Derived.Deep.RegionLaw
import Derived.Lib.SmallJoins
import Derived.Lib.OwnKind
import Derived.Laws.Rows
import Derived.Deep.AppendSrc
import Derived.Laws.Tables
import Derived.Deep.WholeRow
import Derived.Deep.RegionHeld3
import Derived.Test.YtdgmoiflahoihabGreatDoorRParsew

namespace Go.Proofs.YtdgmoiflahoihabGreatDoor
open Go.RowKit
set_option linter.unusedSimpArgs false
set_option linter.unusedVariables false
theorem ret_int {k : IntKind} {a b : Int} (h : a = b) : Ending.returned (.int k a) = .returned (.int k b) := by rw [h]
theorem i64_or_nat (a b : Nat) (ha : a < 4294967296) (hb : b < 4294967296) : bits .or .i64 (a : Int) (b : Int) = ((a ||| b : Nat) : Int) := by
 have hx : a ||| b < 2 ^ 32 := Nat.or_lt_two_pow (by omega) (by omega)
 show IntKind.i64.wrap ((BitVec.ofInt 64 (a : Int) ||| BitVec.ofInt 64 (b : Int)).toNat : Int) = _
 rw [BitVec.toNat_or, Go.ofInt_u64 a (by omega), Go.ofInt_u64 b (by omega)]
 exact IntWalk.i64_in _ ⟨by omega, by omega⟩
def keptL : List UInt8 → List UInt8
 | [] => []
 | c :: r => if blankB c then keptL r else c :: keptL r
def atL : List UInt8 → Nat → List Int
 | [], _ => []
 | c :: r, k => if blankB c then atL r (k + 1) else (k : Int) :: atL r (k + 1)
theorem ret_bool {a b : Bool} (h : a = b) : Ending.returned (.bool a) = .returned (.bool b) := by rw [h]
def natV (n : Nat) : Value := .int .i64 n
def arrV (of : List Nat) : Array Value := (of.map natV).toArray
def BoxAt (w : World) (B : Nat) (of : List Nat) : Prop := w.heap[B]? = some (.cells (arrV of) 62 (0, 0))
theorem BoxAt.lt {w : World} {B : Nat} {of : List Nat} (h : BoxAt w B of) : B < w.heap.size := by
 unfold BoxAt at h
 exact (Array.getElem?_eq_some_iff.mp h).1
theorem BoxAt.below {w w' : World} {B : Nat} {of : List Nat} (h : BoxAt w B of) (hb : Below w.heap.size w w') : BoxAt w' B of := by
 have := hb.block B h.lt
 unfold BoxAt at *
 rw [this, h]
theorem BoxAt.new (w : World) (of : List Nat) : BoxAt (w.alloc (.cells (arrV of) 62)) w.heap.size of := by
 unfold BoxAt
 show (w.heap.push _)[w.heap.size]? = _
 simp
theorem BoxAt.cell {w : World} {B : Nat} {of : List Nat} (h : BoxAt w B of) (k : Nat) (hk : k < of.length) : w.cell? ⟨B, k, none⟩ = some (.int .i64 (of.getD k 0 : Nat)) := by
 rw [cell_of_row w B k _ _ _ h]
 simp [arrV, natV, hk]
theorem infoArr : (Tryz.prog.info? 62).map (fun i => i.size) = some 26 := by kernel_rfl
theorem getD_lt {of : List Nat} (h : ∀ x ∈ of, x < 16) (k : Nat) : of.getD k 0 < 16 := by
 rw [List.getD_eq_getElem?_getD]
 cases e : of[k]? with
 | none => simp
 | some x => exact h x (List.mem_of_getElem? e)
def zero26 : List Nat := List.replicate 26 0
theorem BoxAt.keep {w w' : World} {B K : Nat} {of : List Nat} (h : BoxAt w B of) (hb : Below K w w') (hK : B < K) : BoxAt w' B of := by
 have := hb.block B hK
 unfold BoxAt at *
 rw [this, h]
theorem BoxAt.frozen {w : World} {B : Nat} {of : List Nat} (h : BoxAt w B of) (k : Nat) : w.frozen? ⟨B, k, none⟩ = false := by
 unfold BoxAt at h
 simp [World.frozen?, h]
theorem BoxAt.set {w : World} {B : Nat} {of : List Nat} (h : BoxAt w B of) (k m : Nat) : BoxAt (w.setCell ⟨B, k, none⟩ (.int .i64 (m : Nat))) B (of.set k m) := by
 unfold BoxAt at *
 rw [heap_setCell_same w B k _ _ _ h]
 congr 2
 apply Array.ext'
 simp [arrV, natV, List.map_set]
theorem BoxAt.setRow {w : World} {B : Nat} {of : List Nat} (new : List Nat) (h : BoxAt w B of) : BoxAt (w.setRow B (arrV new)) B new := by
 unfold BoxAt at *
 exact setRow_heap w B _ _ _ _ h
theorem below_setRow {w w' : World} {B K : Nat} {cs : Array Value} (h : Below K w w') (hB : K ≤ B) : Below K w (w'.setRow B cs) := by
 refine h.trans ⟨rfl, rfl, rfl, by simp, fun k hk => ?_⟩
 simp only [World.setRow]
 rw [Array.getElem?_modify, if_neg (by omega)]
theorem arr_one (of : List Nat) : (arrV of).all (·.oneCell') = true := by
 rw [Array.all_eq_true_iff_forall_mem]
 intro v hv
 simp [arrV, natV] at hv
 obtain ⟨n, _, rfl⟩ := hv
 rfl
theorem zeroArr : arrV zero26 = #[.int .i64 0, .int .i64 0, .int .i64 0, .int .i64 0, .int .i64 0, .int .i64 0, .int .i64 0, .int .i64 0, .int .i64 0, .int .i64 0, .int .i64 0, .int .i64 0, .int .i64 0, .int .i64 0, .int .i64 0, .int .i64 0, .int .i64 0, .int .i64 0, .int .i64 0, .int .i64 0, .int .i64 0, .int .i64 0, .int .i64 0, .int .i64 0, .int .i64 0, .int .i64 0] := by rfl
theorem box_zero (w : World) : BoxAt (w.alloc (.cells #[.int .i64 0, .int .i64 0, .int .i64 0, .int .i64 0, .int .i64 0, .int .i64 0, .int .i64 0, .int .i64 0, .int .i64 0, .int .i64 0, .int .i64 0, .int .i64 0, .int .i64 0, .int .i64 0, .int .i64 0, .int .i64 0, .int .i64 0, .int .i64 0, .int .i64 0, .int .i64 0, .int .i64 0, .int .i64 0, .int .i64 0, .int .i64 0, .int .i64 0, .int .i64 0] 62)) w.heap.size zero26 := by
 have := BoxAt.new w zero26
 rwa [zeroArr] at this
theorem range_keep {W w5 : World} {g o : Nat} {cs : List Value} (hb : Below W.heap.size W w5) (h : W.rangeAt g o cs) : w5.rangeAt g o cs := by
 intro j v hv
 have := h j v hv
 rw [hb.cell (block_lt_of_cell this)]
 exact this
end Go.Proofs.YtdgmoiflahoihabGreatDoor
namespace Go.Proofs.YtdgmoiflahoihabGreatDoor
open Go.RowKit
set_option linter.unusedSimpArgs false
set_option linter.unusedVariables false
set_option maxHeartbeats 400000 in
theorem flows_pr (a b : Nat) (w : World) (ha : a < 16) (hb : b < 16) :
  Calls Tryz.prog 58 #[.int .i64 a, .int .i64 b] w fun e w' => e = .returned (.bool (goesB a b)) ∧ w' = w := by
 have ho := i64_or_nat a b (by omega) (by omega)
 go_enter Tryz.func58, Tryz.ntmps58
 go_wp2
 go_ret
 exact ⟨ret_bool (by rw [Bool.eq_iff_iff]; simp [goesB]; omega), rfl⟩
def labL (of : List Nat) : List Pt → Nat → Nat
 | [], a => a
 | p :: r, a => labL of r (if p.op = 2 then a ||| of.getD p.num.toNat 0 else a)
theorem labL_cons (of : List Nat) (p : Pt) (r : List Pt) (a : Nat) : labL of (p :: r) a = labL of r (if p.op = 2 then a ||| of.getD p.num.toNat 0 else a) := rfl
def PtOk (p : Pt) : Prop := p.op = 2 → 0 ≤ p.num ∧ p.num < 26
theorem ptCells_at (l : List Pt) : ∀ (i : Nat) (h : i < l.length), (ptCells l)[i * 2]? = some (.int .i64 l[i].op) ∧ (ptCells l)[i * 2 + 1]? = some (.int .i64 l[i].num) := by
 induction l with
 | nil => intro i h; cases h
 | cons p r ih =>
  intro i h
  cases i with
  | zero => simp [ptCells, ptV]
  | succ i =>
   have := ih i (by simpa using h)
   simp only [ptCells, List.flatMap_cons, ptV] at this ⊢
   rw [show (i + 1) * 2 = i * 2 + 2 by omega, show i * 2 + 2 + 1 = (i * 2 + 1) + 2 by omega]
   simpa using this
theorem parts_form {w : World} {P : Nat → Prop} {v : Value} {l : List Pt} (h : PartsV w P v l) :
  ∃ ao g cap, v = .slice ao l.length cap ∧ ∀ i, ∀ hi : i < l.length, ao = some ⟨g, 0, none⟩ ∧ g < w.heap.size ∧ w.cell? ⟨g, i * 2, none⟩ = some (.int .i64 l[i].op) ∧ w.cell? ⟨g, i * 2 + 1, none⟩ = some (.int .i64 l[i].num) := by
 obtain ⟨ho, _⟩ := h
 rcases Joins.ownsRow_forms ho with ⟨rfl, h0⟩ | ⟨g, cap, rfl⟩
 ·exact ⟨none, 0, 0, by rw [h0], fun i hi => absurd hi (by omega)⟩
 ·refine ⟨some ⟨g, 0, none⟩, g, cap, rfl, fun i hi => ⟨rfl, (ho.lt g rfl).2, ?_, ?_⟩⟩
  ·rw [ho.cellAt (i * 2) (by omega)]; exact (ptCells_at l i hi).1
  ·rw [ho.cellAt (i * 2 + 1) (by omega)]; exact (ptCells_at l i hi).2
set_option maxRecDepth 100000 in
set_option maxHeartbeats 1000000 in
theorem labelOf_any (of : List Nat) (l : List Pt) (P : Nat → Prop) (v : Value) (w : World) (hof : of.length = 26) (h16 : ∀ x ∈ of, x < 16) (hl : l.length ≤ 1000) (hok : ∀ p ∈ l, PtOk p) (hv : PartsV w P v l) :
  Calls Tryz.prog 55 #[v, .agg (arrV of)] w fun e w' => e = .returned (.int .i64 (labL of l 0)) ∧ Below w.heap.size w w' := by
 have hsz : (arrV of).size = 26 := by simp [arrV, hof]
 obtain ⟨ao, g, cap, rfl, hcells⟩ := parts_form hv
 clear hv
 go_enter Tryz.func55, Tryz.ntmps55
 go_wp2_with fail
 have hb0 : BoxAt (w.alloc (.cells (arrV of) 62)) w.heap.size of := BoxAt.new w of
 have hw0 : Below w.heap.size w (w.alloc (.cells (arrV of) 62)) := (Below.refl _ _).alloc (Nat.le_refl _) _
 have HC : Hid _ := hcells
 have HOK : Hid _ := hok
 have H16 : Hid (∀ x ∈ of, x < 16) := h16
 clear hcells hok h16
 go_loopw [5, 10] (fun x y w' => ∃ (k a : Nat), y = .int .i64 k ∧ x = .int .i64 a ∧ k ≤ l.length ∧ a < 16 ∧ Hid (BoxAt w' w.heap.size of) ∧ Hid (Below w.heap.size w w') ∧ Hid (labL of (l.drop k) a = labL of l 0)) (fun _ y _ => l.length - (intOf y).toNat)
 case atStart => exact ⟨0, 0, rfl, rfl, by omega, by omega, hb0, hw0, rfl⟩
 case round =>
  obtain ⟨k, a, rfl, rfl, hk, ha, HB, HW, HL⟩ := hrel
  by_cases hlt : k < l.length
  ·obtain ⟨e0, hg, c0, c1⟩ := HC.out k hlt
   have ok := HOK.out l[k] (List.getElem_mem hlt)
   rw [← HW.out.cell (p := ⟨g, k * 2, none⟩) hg] at c0
   rw [← HW.out.cell (p := ⟨g, k * 2 + 1, none⟩) hg] at c1
   have hz : w.heap.size < wr.heap.size := HB.out.lt
   have hstep := HL.out
   rw [List.drop_eq_getElem_cons hlt, labL_cons] at hstep
   generalize hp : l[k] = p at *
   obtain ⟨op, num⟩ := p
   simp only at c0 c1 hstep
   have tk : decide ((k : Int) < (l.length : Int)) = true := by simp; omega
   subst e0
   have HS : Hid _ := hstep
   by_cases h2 : op = 2
   ·subst h2
    obtain ⟨n0, n1⟩ := ok rfl
    simp only at n0 n1
    obtain ⟨nn, rfl⟩ : ∃ nn : Nat, num = nn := ⟨num.toNat, by omega⟩
    have hcell := HB.out.cell nn (by omega)
    have hol : of.getD nn 0 < 16 := by
     rw [List.getD_eq_getElem?_getD, List.getElem?_eq_getElem (by omega)]
     exact H16.out _ (List.getElem_mem _)
    have HS2 : Hid (labL of (l.drop (k + 1)) (a ||| of.getD nn 0) = labL of l 0) := by show _ = _; have := HS.out; simpa using this
    generalize of.getD nn 0 = q at *
    have ho := i64_or_nat a q (by omega) (by omega)
    have hlq := or_lt16 ha hol
    have hne : ¬ w.heap.size = wr.heap.size := by omega
    clear hstep HS ok hp
    go_wp2_with fail
    go_roundw
    case rel => exact ⟨k + 1, a ||| q, by go_num, rfl, by omega, hlq, HB.out.keep (K := wr.heap.size) ((Below.refl _ _).alloc (Nat.le_refl _) _) hz, HW.out.alloc (by omega) _, HS2⟩
    case measure => simp [intOf]; omega
   ·have HS2 : Hid (labL of (l.drop (k + 1)) a = labL of l 0) := by show _ = _; have := HS.out; simpa [h2] using this
    have t2 : (op == 2) = false := by simpa using h2
    clear hstep HS ok hp
    go_wp2_with fail
    go_roundw
    case rel => exact ⟨k + 1, a, by go_num, rfl, by omega, ha, HB.out.keep (K := wr.heap.size) ((Below.refl _ _).alloc (Nat.le_refl _) _) hz, HW.out.alloc (by omega) _, HS2⟩
    case measure => simp [intOf]; omega
  ·have tk : decide ((k : Int) < (l.length : Int)) = false := by simp; omega
   have hfin : a = labL of l 0 := by
    have := HL.out
    rw [List.drop_of_length_le (by omega)] at this
    exact this
   have HF : Hid _ := hfin
   clear hfin
   go_wp2_with fail
   go_ret
   exact ⟨ret_int (by rw [HF.out]), HW.out⟩
end Go.Proofs.YtdgmoiflahoihabGreatDoor
namespace Go.Proofs.YtdgmoiflahoihabGreatDoor
open Go.RowKit
set_option linter.unusedSimpArgs false
set_option linter.unusedVariables false
def cleanT (of : List Nat) (g : Nat) (c : Core) : Bool :=
 if c.kind = 0 then goesB (g ||| labL of c.parts 0) (of.getD c.name.toNat 0)
 else if c.kind = 1 then goesB g c.label && goesB c.label (of.getD c.name.toNat 0)
 else if c.kind = 2 then goesB (g ||| labL of c.parts 0) c.label
 else true
structure CoreOk (c : Core) : Prop where
 name : c.kind = 0 ∨ c.kind = 1 → 0 ≤ c.name ∧ c.name < 26
 label : c.label < 16
 parts : ∀ p ∈ c.parts, PtOk p
 few : c.parts.length ≤ 1000
 place : c.place ≤ 400
 count : 0 ≤ c.count ∧ c.count ≤ 9
 once : c.kind = 4 → 1 ≤ c.count
 kind : 0 ≤ c.kind ∧ c.kind ≤ 4
theorem labL_lt {of : List Nat} (h : ∀ x ∈ of, x < 16) : ∀ (l : List Pt) (a : Nat), a < 16 → labL of l a < 16
 | [], a, ha => ha
 | p :: r, a, ha => by
  rw [labL_cons]
  refine labL_lt h r _ ?_
  split
  ·exact or_lt16 ha (getD_lt h _)
  ·exact ha
theorem flows_is (a b : Nat) (r : Bool) (w : World) (ha : a < 16) (hb : b < 16) (hr : goesB a b = r) :
  Calls Tryz.prog 58 #[.int .i64 a, .int .i64 b] w fun e w' => e = .returned (.bool r) ∧ w' = w := by
 rw [← hr]
 exact flows_pr a b w ha hb
set_option maxRecDepth 100000 in
set_option maxHeartbeats 1000000 in
theorem isClean_any (of : List Nat) (g : Nat) (c : Core) (P : Nat → Prop) (ve v1 v2 : Value) (w : World) (hof : of.length = 26) (h16 : ∀ x ∈ of, x < 16) (hg : g < 16) (hc : CoreOk c) (hv : PartsV w P ve c.parts) :
  Calls Tryz.prog 54 #[.agg (coreV c ++ [ve, v1, v2]).toArray, .int .i64 g, .agg (arrV of)] w fun e w' => e = .returned (.bool (cleanT of g c)) ∧ Below w.heap.size w w' := by
 have hsz : (arrV of).size = 26 := by simp [arrV, hof]
 have hbx : BoxAt ((w.alloc (.cells #[.int .i64 c.kind, .int .i64 c.place, .int .i64 c.name, .int .i64 c.label, .int .i64 c.count, ve, v1, v2] 104)).alloc (.cells (arrV of) 62)) (w.heap.size + 1) of := by
  have := BoxAt.new (w.alloc (.cells #[.int .i64 c.kind, .int .i64 c.place, .int .i64 c.name, .int .i64 c.label, .int .i64 c.count, ve, v1, v2] 104)) of
  simpa using this
 have hL := labL_lt h16 c.parts 0 (by omega)
 obtain ⟨oname, olabel, oparts, ofew, oplace, ocount, oonce, okind⟩ := hc
 simp only [coreV, List.cons_append, List.nil_append]
 generalize hW : ((w.alloc (.cells #[.int .i64 c.kind, .int .i64 c.place, .int .i64 c.name, .int .i64 c.label, .int .i64 c.count, ve, v1, v2] 104)).alloc (.cells (arrV of) 62)) = W at hbx
 have HW : Hid _ := hW
 have hBW : Below w.heap.size w W := by rw [← hW]; exact ((Below.refl _ _).alloc (Nat.le_refl _) _).alloc (by simp) _
 have hWs : W.heap.size = w.heap.size + 2 := by rw [← hW]; simp
 have hWv : PartsV W P ve c.parts := partsV_frame hv (fun k hk hl => ⟨hk, hBW.block k hl⟩)
 have q0 : W.cell? ⟨w.heap.size, 0, none⟩ = some (.int .i64 c.kind) := by rw [← hW]; simp [go_sem]
 have q2 : W.cell? ⟨w.heap.size, 2, none⟩ = some (.int .i64 c.name) := by rw [← hW]; simp [go_sem]
 have q3 : W.cell? ⟨w.heap.size, 3, none⟩ = some (.int .i64 c.label) := by rw [← hW]; simp [go_sem]
 have q5 : W.cell? ⟨w.heap.size, 5, none⟩ = some ve := by rw [← hW]; simp [go_sem]
 have HBX : Hid (BoxAt W (w.heap.size + 1) of) := hbx
 have HP : Hid (∀ p ∈ c.parts, PtOk p) := oparts
 clear oparts hW hbx
 generalize hl : labL of c.parts 0 = L at *
 have HL : Hid (labL of c.parts 0 = L) := hl
 clear hl
 have HOF : Hid (of.length = 26) := hof
 go_enter Tryz.func54, Tryz.ntmps54
 go_wp2_with (refine wpList_load_row rfl 62 (.tmp 5) rfl (w.heap.size + 1) rfl 62 (arrV of) (0, 0) _ (by rw [HW.out]; exact HBX.out) Tryz.underlying62 rfl (by rw [infoArr, hsz]) ?_)
 rw [HW.out]
 refine (labelOf_any of c.parts P ve _ HOF.out h16 ofew HP.out hWv).mono ?_
 rw [HL.out]
 rintro e w1 ⟨rfl, hb1⟩
 have hlt0 : w.heap.size < W.heap.size := by omega
 rw [← hb1.cell (p := ⟨w.heap.size, 0, none⟩) hlt0] at q0
 rw [← hb1.cell (p := ⟨w.heap.size, 2, none⟩) hlt0] at q2
 rw [← hb1.cell (p := ⟨w.heap.size, 3, none⟩) hlt0] at q3
 have HBX1 : Hid (BoxAt w1 (w.heap.size + 1) of) := HBX.out.keep hb1 (by omega)
 have HB1 : Hid (Below w.heap.size w w1) := hBW.trans (hb1.mono (by omega))
 have hgl := i64_or_nat g L (by omega) (by omega)
 have hgl16 := or_lt16 hg hL
 clear hb1 HBX hBW hWv q5
 generalize hAe : g ||| L = A at *
 have HAe : Hid (g ||| labL of c.parts 0 = A) := by show _ = _; rw [HL.out]; exact hAe
 clear hAe
 by_cases k0 : c.kind = 0
 ·obtain ⟨n0, n1⟩ := oname (.inl k0)
  have HF : Hid (goesB A (of.getD c.name.toNat 0) = cleanT of g c) := by show _ = _; unfold cleanT; rw [if_pos k0, HAe.out]
  rw [k0] at q0
  generalize hnm : c.name = nm at *
  obtain ⟨nn, rfl⟩ : ∃ nn : Nat, nm = nn := ⟨nm.toNat, by omega⟩
  have hcell := HBX1.out.cell nn (by rw [HOF.out]; omega)
  have hol := getD_lt h16 nn
  simp only [Int.toNat_natCast] at HF
  generalize of.getD nn 0 = q at *
  clear oname hnm k0
  go_wp2_with fail
  refine (flows_pr A q _ hgl16 hol).mono ?_
  rintro e w2 ⟨rfl, rfl⟩
  go_wp2_with fail
  go_ret
  exact ⟨ret_boolR HF.out, HB1.out⟩
 by_cases k1 : c.kind = 1
 ·obtain ⟨n0, n1⟩ := oname (.inr k1)
  have HF : Hid ((goesB g c.label && goesB c.label (of.getD c.name.toNat 0)) = cleanT of g c) := by show _ = _; unfold cleanT; rw [if_neg k0, if_pos k1]
  rw [k1] at q0
  generalize hnm : c.name = nm at *
  obtain ⟨nn, rfl⟩ : ∃ nn : Nat, nm = nn := ⟨nm.toNat, by omega⟩
  have hcell := HBX1.out.cell nn (by rw [HOF.out]; omega)
  have hol := getD_lt h16 nn
  simp only [Int.toNat_natCast] at HF
  generalize of.getD nn 0 = q at *
  clear oname hnm k0 k1
  generalize hlb : c.label = lb at *
  have HLB : Hid (c.label = lb) := hlb
  clear hlb
  cases t2 : goesB lb q
  ·cases t1 : goesB g lb
   ·go_wp2_with fail
    go_quiet ((go_at_call 58; exact Calls.quiet_of_same (flows_is _ _ _ _ (by assumption) (by assumption) (by first | exact t1 | exact t2))))
    go_wp2_with fail
    go_ret
    exact ⟨ret_boolR (by have := HF.out; rw [t1] at this; simpa using this), below_drewN HB1.out _⟩
   ·go_wp2_with fail
    go_quiet ((go_at_call 58; exact Calls.quiet_of_same (flows_is _ _ _ _ (by assumption) (by assumption) (by first | exact t1 | exact t2))))
    go_wp2_with fail
    go_ret
    exact ⟨ret_boolR (by have := HF.out; rw [t1, t2] at this; simpa using this), below_drewN HB1.out _⟩
  ·cases t1 : goesB g lb
   ·go_wp2_with fail
    go_quiet ((go_at_call 58; exact Calls.quiet_of_same (flows_is _ _ _ _ (by assumption) (by assumption) (by first | exact t1 | exact t2))))
    go_wp2_with fail
    go_ret
    exact ⟨ret_boolR (by have := HF.out; rw [t1] at this; simpa using this), below_drewN HB1.out _⟩
   ·go_wp2_with fail
    go_quiet ((go_at_call 58; exact Calls.quiet_of_same (flows_is _ _ _ _ (by assumption) (by assumption) (by first | exact t1 | exact t2))))
    go_wp2_with fail
    go_ret
    exact ⟨ret_boolR (by have := HF.out; rw [t1, t2] at this; simpa using this), below_drewN HB1.out _⟩
 by_cases k2 : c.kind = 2
 ·have HF : Hid (goesB A c.label = cleanT of g c) := by show _ = _; unfold cleanT; rw [if_neg k0, if_neg k1, if_pos k2, HAe.out]
  rw [k2] at q0
  clear oname k0 k1 k2
  go_wp2_with fail
  refine (flows_pr A c.label _ hgl16 olabel).mono ?_
  rintro e w2 ⟨rfl, rfl⟩
  go_wp2_with fail
  go_ret
  exact ⟨ret_boolR HF.out, HB1.out⟩
 have HF : Hid (true = cleanT of g c) := by show _ = _; unfold cleanT; rw [if_neg k0, if_neg k1, if_neg k2]
 have t0 : (c.kind == 0) = false := by simpa using k0
 have t1 : (c.kind == 1) = false := by simpa using k1
 have t2 : (c.kind == 2) = false := by simpa using k2
 clear oname k0 k1 k2
 go_wp2_with fail
 go_ret
 exact ⟨ret_boolR HF.out, HB1.out⟩
end Go.Proofs.YtdgmoiflahoihabGreatDoor
namespace Go.Proofs.YtdgmoiflahoihabGreatDoor
open Go.RowKit
set_option linter.unusedSimpArgs false
set_option linter.unusedVariables false
def cleanL {α : Type} (rec : Nat → List α → Option Nat) (of : List Nat) (g : Nat) : List (Core × List α × List α) → Option Nat
 | [] => none
 | q :: r =>
  if cleanT of g q.1 then
   match rec (g ||| labL of q.1.parts 0) q.2.1 with
   | some p => some p
   | none =>
    match rec (g ||| labL of q.1.parts 0) q.2.2 with
    | some p => some p
    | none => cleanL rec of g r
  else some q.1.place
def cleanF (of : List Nat) (n : Nat) : Nat → List (RT n) → Option Nat :=
 match n with
 | 0 => fun _ _ => none
 | n + 1 => fun g l => cleanL (cleanF of n) of g l
def TreeOk (n : Nat) : List (RT n) → Prop :=
 match n with
 | 0 => fun _ => True
 | n + 1 => fun l => l.length ≤ 1000 ∧ ∀ q ∈ (l : List (Core × List (RT n) × List (RT n))), CoreOk q.1 ∧ TreeOk n q.2.1 ∧ TreeOk n q.2.2
theorem flat8 : ∀ (xs : List (List Value)), (∀ x ∈ xs, x.length = 8) → ∀ i (h : i < xs.length) j, j < 8 → xs.flatten[i * 8 + j]? = xs[i][j]?
 | [], _, i, h, _, _ => by cases h
 | x :: r, h8, 0, h, j, hj => by
  have hx := h8 x (by simp)
  simp only [List.flatten_cons, Nat.zero_mul, Nat.zero_add, List.getElem_cons_zero]
  rw [List.getElem?_append_left (by omega)]
 | x :: r, h8, i + 1, h, j, hj => by
  have hx := h8 x (by simp)
  simp only [List.flatten_cons, List.getElem_cons_succ]
  rw [List.getElem?_append_right (by omega), show (i + 1) * 8 + j - x.length = i * 8 + j by omega]
  exact flat8 r (fun y hy => h8 y (by simp [hy])) i (by simpa using h) j hj
theorem rules_at {n : Nat} {w : World} {P : Nat → Prop} {v : Value} {l : List (Core × List (RT n) × List (RT n))} (h : RowsC (fun cs q => RuleC (RulesV n w P) w P cs q) w P v l) :
  ∃ ao g cap, v = .slice ao l.length cap ∧ ∀ i, ∀ hi : i < l.length, ao = some ⟨g, 0, none⟩ ∧ g < w.heap.size ∧ ∃ cs, RuleC (RulesV n w P) w P cs l[i] ∧ ∀ j, j < 8 → w.cell? ⟨g, i * 8 + j, none⟩ = cs[j]? := by
 obtain ⟨xs, h1, h2, h3, h4⟩ := h
 have h8 : ∀ x ∈ xs, x.length = 8 := by
  intro x hx
  obtain ⟨i, hi, rfl⟩ := List.getElem_of_mem hx
  obtain ⟨ve, v1, v2, hcs, _⟩ := h4 i (by omega) hi
  rw [hcs]; rfl
 rcases Joins.ownsRow_forms h1 with ⟨rfl, h0⟩ | ⟨g, cap, rfl⟩
 ·exact ⟨none, 0, 0, by rw [h0], fun i hi => absurd hi (by omega)⟩
 ·refine ⟨some ⟨g, 0, none⟩, g, cap, rfl, fun i hi => ⟨rfl, (h1.lt g rfl).2, xs[i], h4 i hi (by omega), fun j hj => ?_⟩⟩
  rw [h1.cellAt (i * 8 + j) (by omega), flat8 xs h8 i (by omega) j hj]
def resV (o : Option Nat) : Value := .tuple #[.int .i64 ((o.getD 0 : Nat) : Int), .bool o.isNone]
def AllCalls (of : List Nat) (n : Nat) : Prop := ∀ (g : Nat) (l : List (RT n)) (P : Nat → Prop) (v : Value) (w : World), g < 16 → TreeOk n l → RulesV n w P v l →
 Calls Tryz.prog 38 #[v, .int .i64 g, .agg (arrV of)] w fun e w' => e = .returned (resV (cleanF of n g l)) ∧ Below w.heap.size w w'
set_option maxRecDepth 100000 in
set_option maxHeartbeats 1000000 in
theorem all_zero (of : List Nat) (hof : of.length = 26) : AllCalls of 0 := by
 intro g l P v w hg ht hv
 have hsz : (arrV of).size = 26 := by simp [arrV, hof]
 have hw0 : Below w.heap.size w (w.alloc (.cells (arrV of) 62)) := (Below.refl _ _).alloc (Nat.le_refl _) _
 obtain ⟨ao, cap, rfl⟩ : ∃ ao cap, v = .slice ao 0 cap := by
  rcases Joins.ownsRow_forms hv.1 with ⟨rfl, _⟩ | ⟨g, cap, rfl⟩ <;> exact ⟨_, _, rfl⟩
 clear hv
 show Calls _ _ _ _ fun e w' => e = .returned (.tuple #[.int .i64 0, .bool true]) ∧ _
 go_enter Tryz.func38, Tryz.ntmps38
 go_wp2_with fail
 go_loopw [15] (fun x w' => x = .int .i64 0 ∧ Below w.heap.size w w') (fun _ _ => 0)
 case atStart => exact ⟨rfl, hw0⟩
 case round =>
  obtain ⟨rfl, hb⟩ := hrel
  go_wp2_with fail
  go_ret2
  exact ⟨rfl, hb⟩
theorem isClean_at (of : List Nat) (g : Nat) (c : Core) (P : Nat → Prop) (ve v1 v2 : Value) (w : World) (hof : of.length = 26) (h16 : ∀ x ∈ of, x < 16) (hg : g < 16) (hc : CoreOk c) (hv : PartsV w P ve c.parts) :
  Calls Tryz.prog 54 #[.agg #[.int .i64 c.kind, .int .i64 c.place, .int .i64 c.name, .int .i64 c.label, .int .i64 c.count, ve, v1, v2], .int .i64 g, .agg (arrV of)] w fun e w' => e = .returned (.bool (cleanT of g c)) ∧ Below w.heap.size w w' :=
 isClean_any of g c P ve v1 v2 w hof h16 hg hc hv
theorem partsV_below {w w' : World} {P : Nat → Prop} {v : Value} {l : List Pt} (h : PartsV w P v l) (hb : Below w.heap.size w w') : PartsV w' P v l := partsV_frame h (fun k hk hl => ⟨hk, hb.block k hl⟩)
theorem rulesV_below {n : Nat} {w w' : World} {P : Nat → Prop} {v : Value} {l : List (RT n)} (h : RulesV n w P v l) (hb : Below w.heap.size w w') : RulesV n w' P v l := rulesV_frame (fun k hk hl => ⟨hk, hb.block k hl⟩) n v l h
theorem cleanL_bad {α : Type} {rec : Nat → List α → Option Nat} {of : List Nat} {g : Nat} {q : Core × List α × List α} {r : List (Core × List α × List α)} (h : cleanT of g q.1 = false) : cleanL rec of g (q :: r) = some q.1.place := by
 unfold cleanL; rw [if_neg (by rw [h]; decide)]
theorem cleanL_first {α : Type} {rec : Nat → List α → Option Nat} {of : List Nat} {g p : Nat} {q : Core × List α × List α} {r : List (Core × List α × List α)} (h : cleanT of g q.1 = true) (h1 : rec (g ||| labL of q.1.parts 0) q.2.1 = some p) : cleanL rec of g (q :: r) = some p := by
 unfold cleanL; rw [if_pos h, h1]
theorem cleanL_second {α : Type} {rec : Nat → List α → Option Nat} {of : List Nat} {g p : Nat} {q : Core × List α × List α} {r : List (Core × List α × List α)} (h : cleanT of g q.1 = true) (h1 : rec (g ||| labL of q.1.parts 0) q.2.1 = none) (h2 : rec (g ||| labL of q.1.parts 0) q.2.2 = some p) : cleanL rec of g (q :: r) = some p := by
 unfold cleanL; rw [if_pos h, h1]; simp only; rw [h2]
theorem cleanL_next {α : Type} {rec : Nat → List α → Option Nat} {of : List Nat} {g : Nat} {q : Core × List α × List α} {r : List (Core × List α × List α)} (h : cleanT of g q.1 = true) (h1 : rec (g ||| labL of q.1.parts 0) q.2.1 = none) (h2 : rec (g ||| labL of q.1.parts 0) q.2.2 = none) : cleanL rec of g (q :: r) = cleanL rec of g r := by
 conv => lhs; unfold cleanL
 rw [if_pos h, h1]; simp only; rw [h2]
theorem ret_res {o : Option Nat} {p : Nat} (h : some p = o) : Ending.returned (.tuple #[.int .i64 (p : Nat), .bool false]) = .returned (resV o) := by rw [← h]; rfl
set_option maxRecDepth 100000 in
set_option maxHeartbeats 1000000 in
theorem all_step (of : List Nat) (hof : of.length = 26) (h16 : ∀ x ∈ of, x < 16) (n : Nat) (ih : AllCalls of n) (g : Nat) (l : List (Core × List (RT n) × List (RT n))) (P : Nat → Prop) (v : Value) (w : World) (hg : g < 16) (hl : l.length ≤ 1000) (hok : ∀ q ∈ l, CoreOk q.1 ∧ TreeOk n q.2.1 ∧ TreeOk n q.2.2)
  (hv : RowsC (fun cs q => RuleC (RulesV n w P) w P cs q) w P v l) :
  Calls Tryz.prog 38 #[v, .int .i64 g, .agg (arrV of)] w fun e w' => e = .returned (resV (cleanL (cleanF of n) of g l)) ∧ Below w.heap.size w w' := by
 have hsz : (arrV of).size = 26 := by simp [arrV, hof]
 have hb0 : BoxAt (w.alloc (.cells (arrV of) 62)) w.heap.size of := BoxAt.new w of
 have hw0 : Below w.heap.size w (w.alloc (.cells (arrV of) 62)) := (Below.refl _ _).alloc (Nat.le_refl _) _
 obtain ⟨ao, gb, cap, rfl, hcells⟩ := rules_at hv
 have HOK : Hid _ := hok
 have HC : Hid _ := hcells
 have IH : Hid (AllCalls of n) := ih
 have HOF : Hid (of.length = 26) := hof
 generalize hR : cleanL (cleanF of n) of g l = R
 have HR : Hid (cleanL (cleanF of n) of g l = R) := hR
 clear hcells hok ih hR hv
 go_enter Tryz.func38, Tryz.ntmps38
 go_wp2_with fail
 go_loopw [15] (fun x w' => ∃ (k : Nat), x = .int .i64 k ∧ k ≤ l.length ∧ Hid (BoxAt w' w.heap.size of) ∧ Hid (Below w.heap.size w w') ∧ Hid (cleanL (cleanF of n) of g (l.drop k) = R)) (fun x _ => l.length - (intOf x).toNat)
 case atStart => exact ⟨0, rfl, by omega, hb0, hw0, HR⟩
 case round =>
  obtain ⟨k, rfl, hk, HB, HW, HL⟩ := hrel
  by_cases hlt : k < l.length
  ·have tk : decide ((k : Int) < (l.length : Int)) = true := by simp; omega
   obtain ⟨e0, hgb, cs, hru, hcs⟩ := HC.out k hlt
   obtain ⟨okc, ok1, ok2⟩ := HOK.out l[k] (List.getElem_mem hlt)
   have hstep := HL.out
   rw [List.drop_eq_getElem_cons hlt] at hstep
   generalize hq : l[k] = q at *
   obtain ⟨c, l1, l2⟩ := q
   obtain ⟨ve, v1, v2, hcs0, hpe, hr1, hr2⟩ := hru
   subst hcs0
   simp only at hpe hr1 hr2 okc ok1 ok2
   obtain ⟨ae, ne, ce, hve⟩ : ∃ aa nn cc, ve = .slice aa nn cc := by
    rcases Joins.ownsRow_forms hpe.1 with ⟨rfl, _⟩ | ⟨g, cap, rfl⟩ <;> exact ⟨_, _, _, rfl⟩
   obtain ⟨a1, n1, c1, hv1⟩ := rulesV_form hr1
   obtain ⟨a2, n2, c2, hv2⟩ := rulesV_form hr2
   have hEV : ve = .slice ae ne ce ∧ v1 = .slice a1 n1 c1 ∧ v2 = .slice a2 n2 c2 := ⟨hve, hv1, hv2⟩
   clear hve hv1 hv2
   obtain ⟨rfl, rfl, rfl⟩ := hEV
   have hz : w.heap.size < wr.heap.size := HB.out.lt
   have hne : ¬ w.heap.size = wr.heap.size := by omega
   have d : ∀ j, j < 8 → wr.cell? ⟨gb, k * 8 + j, none⟩ = (coreV c ++ [.slice ae ne ce, .slice a1 n1 c1, .slice a2 n2 c2])[j]? := fun j hj => (HW.out.cell (p := ⟨gb, k * 8 + j, none⟩) hgb).trans (hcs j hj)
   have d0 : wr.cell? ⟨gb, k * 8, none⟩ = some (.int .i64 c.kind) := d 0 (by omega)
   have d1 : wr.cell? ⟨gb, k * 8 + 1, none⟩ = some (.int .i64 c.place) := d 1 (by omega)
   have d2 : wr.cell? ⟨gb, k * 8 + 2, none⟩ = some (.int .i64 c.name) := d 2 (by omega)
   have d3 : wr.cell? ⟨gb, k * 8 + 3, none⟩ = some (.int .i64 c.label) := d 3 (by omega)
   have d4 : wr.cell? ⟨gb, k * 8 + 4, none⟩ = some (.int .i64 c.count) := d 4 (by omega)
   have d5 : wr.cell? ⟨gb, k * 8 + 5, none⟩ = some (.slice ae ne ce) := d 5 (by omega)
   have d6 : wr.cell? ⟨gb, k * 8 + 6, none⟩ = some (.slice a1 n1 c1) := d 6 (by omega)
   have d7 : wr.cell? ⟨gb, k * 8 + 7, none⟩ = some (.slice a2 n2 c2) := d 7 (by omega)
   subst e0
   have HS : Hid _ := hstep
   have OKC : Hid (CoreOk c) := okc
   have OK1 : Hid (TreeOk n l1) := ok1
   have OK2 : Hid (TreeOk n l2) := ok2
   have HPE : Hid (PartsV w P (.slice ae ne ce) c.parts) := hpe
   have HR1 : Hid (RulesV n w P (.slice a1 n1 c1) l1) := hr1
   have HR2 : Hid (RulesV n w P (.slice a2 n2 c2) l2) := hr2
   have hL := labL_lt h16 c.parts 0 (by omega)
   have hpl := okc.place
   clear hstep okc ok1 ok2 hpe hr1 hr2 hcs d hq
   have hbx1 : BoxAt (wr.alloc (.cells #[.int .i64 c.kind, .int .i64 c.place, .int .i64 c.name, .int .i64 c.label, .int .i64 c.count, .slice ae ne ce, .slice a1 n1 c1, .slice a2 n2 c2] 104)) w.heap.size of := HB.out.keep (K := wr.heap.size) ((Below.refl _ _).alloc (Nat.le_refl _) _) hz
   have HBX1 : Hid _ := hbx1
   clear hbx1
   go_wp2_with (refine wpList_load_row rfl 62 (.tmp 5) rfl w.heap.size rfl 62 (arrV of) (0, 0) _ HBX1.out Tryz.underlying62 rfl (by rw [infoArr, hsz]) ?_)
   refine (isClean_at of g c P _ _ _ _ HOF.out h16 hg OKC.out (partsV_below HPE.out (HW.out.alloc (by omega) _))).mono ?_
   rintro e w1 ⟨rfl, hb1⟩
   have HW1 : Hid (Below w.heap.size w w1) := (HW.out.alloc (by omega) _).trans (hb1.mono (by simp; omega))
   have HBX2 : Hid (BoxAt w1 w.heap.size of) := BoxAt.keep HBX1.out hb1 (by simp; omega)
   have q1 : w1.cell? ⟨wr.heap.size, 1, none⟩ = some (.int .i64 c.place) := by rw [hb1.cell (by simp)]; simp [go_sem]
   have q5 : w1.cell? ⟨wr.heap.size, 5, none⟩ = some (.slice ae ne ce) := by rw [hb1.cell (by simp)]; simp [go_sem]
   have q6 : w1.cell? ⟨wr.heap.size, 6, none⟩ = some (.slice a1 n1 c1) := by rw [hb1.cell (by simp)]; simp [go_sem]
   have q7 : w1.cell? ⟨wr.heap.size, 7, none⟩ = some (.slice a2 n2 c2) := by rw [hb1.cell (by simp)]; simp [go_sem]
   have hz1 : wr.heap.size < w1.heap.size := by have := hb1.size; simp at this; omega
   clear hb1 HBX1 HB HW d0 d1 d2 d3 d4 d5 d6 d7
   cases hcl : cleanT of g c
   ·have HF : Hid (some c.place = R) := by show _ = _; have := HS.out; rw [cleanL_bad hcl] at this; exact this
    go_wp2_with fail
    go_ret2
    exact ⟨ret_res HF.out, HW1.out⟩
   ·go_wp2_with (refine wpList_load_row rfl 62 (.tmp 5) rfl w.heap.size rfl 62 (arrV of) (0, 0) _ HBX2.out Tryz.underlying62 rfl (by rw [infoArr, hsz]) ?_)
    refine (labelOf_any of c.parts P _ _ HOF.out h16 OKC.out.few OKC.out.parts (partsV_below HPE.out HW1.out)).mono ?_
    rintro e w2 ⟨rfl, hb2⟩
    generalize hLe : labL of c.parts 0 = L at *
    have HLe : Hid (labL of c.parts 0 = L) := hLe
    have hgl := i64_or_nat g L (by omega) (by omega)
    have hgl16 := or_lt16 hg hL
    have HW2 : Hid (Below w.heap.size w w2) := HW1.out.trans (hb2.mono (by omega))
    have HBX3 : Hid (BoxAt w2 w.heap.size of) := HBX2.out.keep hb2 (by omega)
    rw [← hb2.cell (p := ⟨wr.heap.size, 6, none⟩) hz1] at q6
    rw [← hb2.cell (p := ⟨wr.heap.size, 7, none⟩) hz1] at q7
    have hz2 : wr.heap.size < w2.heap.size := by have := hb2.size; omega
    clear hb2 HBX2 HW1 q1 q5 hLe
    generalize hAe : g ||| L = A at *
    have HAe : Hid (g ||| labL of c.parts 0 = A) := by show _ = _; rw [HLe.out]; exact hAe
    clear hAe
    go_wp2_with (refine wpList_load_row rfl 62 (.tmp 5) rfl w.heap.size rfl 62 (arrV of) (0, 0) _ HBX3.out Tryz.underlying62 rfl (by rw [infoArr, hsz]) ?_)
    refine (IH.out A l1 P _ _ hgl16 OK1.out (rulesV_below HR1.out HW2.out)).mono ?_
    rintro e w3 ⟨rfl, hb3⟩
    have HW3 : Hid (Below w.heap.size w w3) := HW2.out.trans (hb3.mono (by omega))
    have HBX4 : Hid (BoxAt w3 w.heap.size of) := HBX3.out.keep hb3 (by omega)
    rw [← hb3.cell (p := ⟨wr.heap.size, 7, none⟩) hz2] at q7
    clear hb3 HBX3 HW2 q6
    cases hx : cleanF of n A l1 with
    | some p =>
     have HF : Hid (some p = R) := by show _ = _; have := HS.out; rw [cleanL_first hcl (by rw [HAe.out]; exact hx)] at this; exact this
     simp only [resV, Option.getD_some, Option.isNone_some]
     go_wp2_with fail
     go_ret2
     exact ⟨ret_res HF.out, HW3.out⟩
    | none =>
     simp only [resV, Option.getD_none, Option.isNone_none]
     go_wp2_with (refine wpList_load_row rfl 62 (.tmp 5) rfl w.heap.size rfl 62 (arrV of) (0, 0) _ HBX4.out Tryz.underlying62 rfl (by rw [infoArr, hsz]) ?_)
     refine (IH.out A l2 P _ _ hgl16 OK2.out (rulesV_below HR2.out HW3.out)).mono ?_
     rintro e w4 ⟨rfl, hb4⟩
     have hz3 : w.heap.size < w3.heap.size := HBX4.out.lt
     have HW4 : Hid (Below w.heap.size w w4) := HW3.out.trans (hb4.mono (by omega))
     have HBX5 : Hid (BoxAt w4 w.heap.size of) := HBX4.out.keep hb4 hz3
     clear hb4 HBX4 HW3 q7
     cases hy : cleanF of n A l2 with
     | some p =>
      have HF : Hid (some p = R) := by show _ = _; have := HS.out; rw [cleanL_second hcl (by rw [HAe.out]; exact hx) (by rw [HAe.out]; exact hy)] at this; exact this
      simp only [resV, Option.getD_some, Option.isNone_some]
      go_wp2_with fail
      go_ret2
      exact ⟨ret_res HF.out, HW4.out⟩
     | none =>
      have HF : Hid (cleanL (cleanF of n) of g (l.drop (k + 1)) = R) := by show _ = _; have := HS.out; rw [cleanL_next hcl (by rw [HAe.out]; exact hx) (by rw [HAe.out]; exact hy)] at this; exact this
      simp only [resV, Option.getD_none, Option.isNone_none]
      go_wp2_with fail
      go_roundw
      case rel => exact ⟨k + 1, by go_num, by omega, HBX5, HW4, HF⟩
      case measure => simp [intOf]; omega
  ·have tk : decide ((k : Int) < (l.length : Int)) = false := by simp; omega
   have hfin : none = R := by
    have := HL.out
    rw [List.drop_of_length_le (by omega)] at this
    exact this
   have HF : Hid _ := hfin
   clear hfin
   go_wp2_with fail
   go_ret2
   refine ⟨?_, HW.out⟩
   rw [← HF.out]
   rfl
theorem all_succ (of : List Nat) (hof : of.length = 26) (h16 : ∀ x ∈ of, x < 16) (n : Nat) (ih : AllCalls of n) : AllCalls of (n + 1) :=
 fun g l P v w hg ht hv => all_step of hof h16 n ih g l P v w hg ht.1 ht.2 hv
theorem allClean_any (of : List Nat) (hof : of.length = 26) (h16 : ∀ x ∈ of, x < 16) : ∀ n, AllCalls of n
 | 0 => all_zero of hof
 | n + 1 => all_succ of hof h16 n (allClean_any of hof h16 n)
end Go.Proofs.YtdgmoiflahoihabGreatDoor
