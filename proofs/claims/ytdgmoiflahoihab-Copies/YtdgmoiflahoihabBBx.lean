import Derived.Test.YtdgmoiflahoihabBAx
import Derived.Test.YtdgmoiflahoihabPlainx
import Derived.RegionTactic
import Derived.ChangeAlike
import Derived.Deep.RegionWith
import Derived.Deep.Cut
import Derived.Deep.CutRange
import Derived.Laws.BitsAllLaws
import Derived.Deep.QuietTactic
import Derived.BigQuiet
import Derived.Deep.RegionLaw
import Derived.Lib.SmallJoins
import Derived.Lib.OwnKind
import Derived.Laws.Rows
import Derived.Deep.AppendSrc
import Derived.Laws.Tables
import Derived.Deep.WholeRow
import Derived.Deep.RegionHeld3

namespace Go.Proofs.Ytdgmoiflahoihab
open Go.RowKit
set_option linter.unusedSimpArgs false
set_option linter.unusedVariables false
theorem ret_int {k : IntKind} {a b : Int} (h : a = b) : Ending.returned (.int k a) = .returned (.int k b) := by rw [h]
theorem i64_or_nat (a b : Nat) (ha : a < 4294967296) (hb : b < 4294967296) : bits .or .i64 (a : Int) (b : Int) = ((a ||| b : Nat) : Int) := by
 have hx : a ||| b < 2 ^ 32 := Nat.or_lt_two_pow (by omega) (by omega)
 show IntKind.i64.wrap ((BitVec.ofInt 64 (a : Int) ||| BitVec.ofInt 64 (b : Int)).toNat : Int) = _
 rw [BitVec.toNat_or, Go.ofInt_u64 a (by omega), Go.ofInt_u64 b (by omega)]
 exact IntWalk.i64_in _ ⟨by omega, by omega⟩
def keptL : List UInt8 → List UInt8
 | [] => []
 | c :: r => if blankB c then keptL r else c :: keptL r
def atL : List UInt8 → Nat → List Int
 | [], _ => []
 | c :: r, k => if blankB c then atL r (k + 1) else (k : Int) :: atL r (k + 1)
theorem ret_bool {a b : Bool} (h : a = b) : Ending.returned (.bool a) = .returned (.bool b) := by rw [h]
def natV (n : Nat) : Value := .int .i64 n
def arrV (of : List Nat) : Array Value := (of.map natV).toArray
def BoxAt (w : World) (B : Nat) (of : List Nat) : Prop := w.heap[B]? = some (.cells (arrV of) 46 (0, 0))
theorem BoxAt.lt {w : World} {B : Nat} {of : List Nat} (h : BoxAt w B of) : B < w.heap.size := by
 unfold BoxAt at h
 exact (Array.getElem?_eq_some_iff.mp h).1
theorem BoxAt.below {w w' : World} {B : Nat} {of : List Nat} (h : BoxAt w B of) (hb : Below w.heap.size w w') : BoxAt w' B of := by
 have := hb.block B h.lt
 unfold BoxAt at *
 rw [this, h]
theorem BoxAt.new (w : World) (of : List Nat) : BoxAt (w.alloc (.cells (arrV of) 46)) w.heap.size of := by
 unfold BoxAt
 show (w.heap.push _)[w.heap.size]? = _
 simp
theorem BoxAt.cell {w : World} {B : Nat} {of : List Nat} (h : BoxAt w B of) (k : Nat) (hk : k < of.length) : w.cell? ⟨B, k, none⟩ = some (.int .i64 (of.getD k 0 : Nat)) := by
 rw [cell_of_row w B k _ _ _ h]
 simp [arrV, natV, hk]
theorem infoArr : (Try.prog.info? 46).map (fun i => i.size) = some 26 := by kernel_rfl
theorem getD_lt {of : List Nat} (h : ∀ x ∈ of, x < 16) (k : Nat) : of.getD k 0 < 16 := by
 rw [List.getD_eq_getElem?_getD]
 cases e : of[k]? with
 | none => simp
 | some x => exact h x (List.mem_of_getElem? e)
def zero26 : List Nat := List.replicate 26 0
theorem BoxAt.keep {w w' : World} {B K : Nat} {of : List Nat} (h : BoxAt w B of) (hb : Below K w w') (hK : B < K) : BoxAt w' B of := by
 have := hb.block B hK
 unfold BoxAt at *
 rw [this, h]
theorem BoxAt.frozen {w : World} {B : Nat} {of : List Nat} (h : BoxAt w B of) (k : Nat) : w.frozen? ⟨B, k, none⟩ = false := by
 unfold BoxAt at h
 simp [World.frozen?, h]
theorem BoxAt.set {w : World} {B : Nat} {of : List Nat} (h : BoxAt w B of) (k m : Nat) : BoxAt (w.setCell ⟨B, k, none⟩ (.int .i64 (m : Nat))) B (of.set k m) := by
 unfold BoxAt at *
 rw [heap_setCell_same w B k _ _ _ h]
 congr 2
 apply Array.ext'
 simp [arrV, natV, List.map_set]
theorem BoxAt.setRow {w : World} {B : Nat} {of : List Nat} (new : List Nat) (h : BoxAt w B of) : BoxAt (w.setRow B (arrV new)) B new := by
 unfold BoxAt at *
 exact setRow_heap w B _ _ _ _ h
theorem below_setRow {w w' : World} {B K : Nat} {cs : Array Value} (h : Below K w w') (hB : K ≤ B) : Below K w (w'.setRow B cs) := by
 refine h.trans ⟨rfl, rfl, rfl, by simp, fun k hk => ?_⟩
 simp only [World.setRow]
 rw [Array.getElem?_modify, if_neg (by omega)]
theorem arr_one (of : List Nat) : (arrV of).all (·.oneCell') = true := by
 rw [Array.all_eq_true_iff_forall_mem]
 intro v hv
 simp [arrV, natV] at hv
 obtain ⟨n, _, rfl⟩ := hv
 rfl
theorem zeroArr : arrV zero26 = #[.int .i64 0, .int .i64 0, .int .i64 0, .int .i64 0, .int .i64 0, .int .i64 0, .int .i64 0, .int .i64 0, .int .i64 0, .int .i64 0, .int .i64 0, .int .i64 0, .int .i64 0, .int .i64 0, .int .i64 0, .int .i64 0, .int .i64 0, .int .i64 0, .int .i64 0, .int .i64 0, .int .i64 0, .int .i64 0, .int .i64 0, .int .i64 0, .int .i64 0, .int .i64 0] := by rfl
theorem box_zero (w : World) : BoxAt (w.alloc (.cells #[.int .i64 0, .int .i64 0, .int .i64 0, .int .i64 0, .int .i64 0, .int .i64 0, .int .i64 0, .int .i64 0, .int .i64 0, .int .i64 0, .int .i64 0, .int .i64 0, .int .i64 0, .int .i64 0, .int .i64 0, .int .i64 0, .int .i64 0, .int .i64 0, .int .i64 0, .int .i64 0, .int .i64 0, .int .i64 0, .int .i64 0, .int .i64 0, .int .i64 0, .int .i64 0] 46)) w.heap.size zero26 := by
 have := BoxAt.new w zero26
 rwa [zeroArr] at this
theorem range_keep {W w5 : World} {g o : Nat} {cs : List Value} (hb : Below W.heap.size W w5) (h : W.rangeAt g o cs) : w5.rangeAt g o cs := by
 intro j v hv
 have := h j v hv
 rw [hb.cell (block_lt_of_cell this)]
 exact this
end Go.Proofs.Ytdgmoiflahoihab
