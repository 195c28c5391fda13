import Derived.Test.YtdgmoiflahoihaaCFlowx
import Derived.Test.YtdgmoiflahoihaaPlainx
import Derived.Laws.Tables

namespace Go.Proofs.Ytdgmoiflahoihaa
open Go.RowKit
set_option linter.unusedSimpArgs false
set_option linter.unusedVariables false
def zero26 : List Nat := List.replicate 26 0
theorem BoxAt.keep {w w' : World} {B K : Nat} {of : List Nat} (h : BoxAt w B of) (hb : Below K w w') (hK : B < K) : BoxAt w' B of := by
 have := hb.block B hK
 unfold BoxAt at *
 rw [this, h]
theorem BoxAt.frozen {w : World} {B : Nat} {of : List Nat} (h : BoxAt w B of) (k : Nat) : w.frozen? ⟨B, k, none⟩ = false := by
 unfold BoxAt at h
 simp [World.frozen?, h]
theorem BoxAt.set {w : World} {B : Nat} {of : List Nat} (h : BoxAt w B of) (k m : Nat) : BoxAt (w.setCell ⟨B, k, none⟩ (.int .i64 (m : Nat))) B (of.set k m) := by
 unfold BoxAt at *
 rw [heap_setCell_same w B k _ _ _ h]
 congr 2
 apply Array.ext'
 simp [arrV, natV, List.map_set]
theorem BoxAt.setRow {w : World} {B : Nat} {of : List Nat} (new : List Nat) (h : BoxAt w B of) : BoxAt (w.setRow B (arrV new)) B new := by
 unfold BoxAt at *
 exact setRow_heap w B _ _ _ _ h
theorem below_setRow {w w' : World} {B K : Nat} {cs : Array Value} (h : Below K w w') (hB : K ≤ B) : Below K w (w'.setRow B cs) := by
 refine h.trans ⟨rfl, rfl, rfl, by simp, fun k hk => ?_⟩
 simp only [World.setRow]
 rw [Array.getElem?_modify, if_neg (by omega)]
theorem arr_one (of : List Nat) : (arrV of).all (·.oneCell') = true := by
 rw [Array.all_eq_true_iff_forall_mem]
 intro v hv
 simp [arrV, natV] at hv
 obtain ⟨n, _, rfl⟩ := hv
 rfl
theorem zeroArr : arrV zero26 = #[.int .i64 0, .int .i64 0, .int .i64 0, .int .i64 0, .int .i64 0, .int .i64 0, .int .i64 0, .int .i64 0, .int .i64 0, .int .i64 0, .int .i64 0, .int .i64 0, .int .i64 0, .int .i64 0, .int .i64 0, .int .i64 0, .int .i64 0, .int .i64 0, .int .i64 0, .int .i64 0, .int .i64 0, .int .i64 0, .int .i64 0, .int .i64 0, .int .i64 0, .int .i64 0] := by rfl
theorem box_zero (w : World) : BoxAt (w.alloc (.cells #[.int .i64 0, .int .i64 0, .int .i64 0, .int .i64 0, .int .i64 0, .int .i64 0, .int .i64 0, .int .i64 0, .int .i64 0, .int .i64 0, .int .i64 0, .int .i64 0, .int .i64 0, .int .i64 0, .int .i64 0, .int .i64 0, .int .i64 0, .int .i64 0, .int .i64 0, .int .i64 0, .int .i64 0, .int .i64 0, .int .i64 0, .int .i64 0, .int .i64 0, .int .i64 0] 26)) w.heap.size zero26 := by
 have := BoxAt.new w zero26
 rwa [zeroArr] at this
end Go.Proofs.Ytdgmoiflahoihaa
