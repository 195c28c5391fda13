import Derived.Test.YtdgmoiflahoihaaGreatDoorBDXw
import Derived.Test.YtdgmoiflahoihaaGreatDoorPCheckw

namespace Go.Proofs.YtdgmoiflahoihaaGreatDoor
open Go.RowKit
set_option linter.unusedSimpArgs false
set_option linter.unusedVariables false
structure Gd where
 text : List UInt8
 e : Int
 at' : Int
def goldL : List Gd := [
 ⟨[63, 97, 58, 65, 59, 63, 98, 58, 66, 59, 62, 65, 32, 97, 59, 62, 65, 66, 32, 97, 43, 98, 59], 0, 0⟩,
 ⟨[63, 97, 58, 65, 59, 62, 45, 97, 59], 5, 5⟩,
 ⟨[63, 97, 58, 65, 59, 120, 61, 97, 59, 62, 45, 49, 59, 62, 66, 32, 120, 59], 5, 13⟩,
 ⟨[63, 97, 58, 65, 59, 40, 97, 41, 123, 62, 45, 49, 59, 125], 5, 9⟩,
 ⟨[63, 97, 58, 65, 59, 63, 97, 58, 66, 59], 3, 6⟩,
 ⟨[120, 61, 59], 2, 2⟩,
 ⟨[62, 66, 65, 32, 49, 59], 2, 2⟩,
 ⟨[42, 57, 123, 42, 57, 123, 42, 57, 123, 42, 57, 123, 120, 61, 49, 59, 125, 125, 125, 125], 4, 0⟩,
 ⟨[63, 97, 58, 65, 59, 33, 120, 58, 45, 59, 120, 61, 97, 59], 5, 10⟩,
 ⟨[63, 97, 58, 65, 59, 33, 120, 58, 45, 59, 94, 120, 58, 45, 61, 97, 59, 62, 45, 120, 59], 0, 0⟩,
 ⟨[], 0, 0⟩,
 ⟨[42, 49, 123, 42, 49, 123, 42, 49, 123, 42, 49, 123, 42, 49, 123, 42, 49, 123, 42, 49, 123, 42, 49, 123, 120, 61, 49, 59, 125, 125, 125, 125, 125, 125, 125, 125], 0, 0⟩,
 ⟨[42, 49, 123, 42, 49, 123, 42, 49, 123, 42, 49, 123, 42, 49, 123, 42, 49, 123, 42, 49, 123, 42, 49, 123, 42, 49, 123, 120, 61, 49, 59, 125, 125, 125, 125, 125, 125, 125, 125, 125], 2, 24⟩,
 ⟨[63, 97, 58, 65, 59, 40, 97, 41, 123, 94, 120, 58, 45, 61, 49, 59, 125], 5, 9⟩,
 ⟨[120, 61, 49, 59, 63, 97, 58, 65, 59], 2, 4⟩,
 ⟨[120, 61, 49, 60, 50, 60, 51, 59], 2, 5⟩]
def goldAt (k : Nat) : Gd := goldL.getD k ⟨[], 0, 0⟩
def goldCells : List Value := [
 .string (txt [63, 97, 58, 65, 59, 63, 98, 58, 66, 59, 62, 65, 32, 97, 59, 62, 65, 66, 32, 97, 43, 98, 59]), .int .i64 0, .int .i64 0,
 .string (txt [63, 97, 58, 65, 59, 62, 45, 97, 59]), .int .i64 5, .int .i64 5,
 .string (txt [63, 97, 58, 65, 59, 120, 61, 97, 59, 62, 45, 49, 59, 62, 66, 32, 120, 59]), .int .i64 5, .int .i64 13,
 .string (txt [63, 97, 58, 65, 59, 40, 97, 41, 123, 62, 45, 49, 59, 125]), .int .i64 5, .int .i64 9,
 .string (txt [63, 97, 58, 65, 59, 63, 97, 58, 66, 59]), .int .i64 3, .int .i64 6,
 .string (txt [120, 61, 59]), .int .i64 2, .int .i64 2,
 .string (txt [62, 66, 65, 32, 49, 59]), .int .i64 2, .int .i64 2,
 .string (txt [42, 57, 123, 42, 57, 123, 42, 57, 123, 42, 57, 123, 120, 61, 49, 59, 125, 125, 125, 125]), .int .i64 4, .int .i64 0,
 .string (txt [63, 97, 58, 65, 59, 33, 120, 58, 45, 59, 120, 61, 97, 59]), .int .i64 5, .int .i64 10,
 .string (txt [63, 97, 58, 65, 59, 33, 120, 58, 45, 59, 94, 120, 58, 45, 61, 97, 59, 62, 45, 120, 59]), .int .i64 0, .int .i64 0,
 .string (txt []), .int .i64 0, .int .i64 0,
 .string (txt [42, 49, 123, 42, 49, 123, 42, 49, 123, 42, 49, 123, 42, 49, 123, 42, 49, 123, 42, 49, 123, 42, 49, 123, 120, 61, 49, 59, 125, 125, 125, 125, 125, 125, 125, 125]), .int .i64 0, .int .i64 0,
 .string (txt [42, 49, 123, 42, 49, 123, 42, 49, 123, 42, 49, 123, 42, 49, 123, 42, 49, 123, 42, 49, 123, 42, 49, 123, 42, 49, 123, 120, 61, 49, 59, 125, 125, 125, 125, 125, 125, 125, 125, 125]), .int .i64 2, .int .i64 24,
 .string (txt [63, 97, 58, 65, 59, 40, 97, 41, 123, 94, 120, 58, 45, 61, 49, 59, 125]), .int .i64 5, .int .i64 9,
 .string (txt [120, 61, 49, 59, 63, 97, 58, 65, 59]), .int .i64 2, .int .i64 4,
 .string (txt [120, 61, 49, 60, 50, 60, 51, 59]), .int .i64 2, .int .i64 5]
def GoldsP (v : Value) (w : World) : Prop := ∃ g, v = .slice (some ⟨g, 0, none⟩) 16 16 ∧ g < w.heap.size ∧ ∀ k, k < 16 → w.cell? ⟨g, k * 3, none⟩ = some (.string (txt (goldAt k).text)) ∧ w.cell? ⟨g, k * 3 + 1, none⟩ = some (.int .i64 (goldAt k).e) ∧ w.cell? ⟨g, k * 3 + 2, none⟩ = some (.int .i64 (goldAt k).at')
theorem GoldsP.below {v : Value} {w w' : World} (h : GoldsP v w) (hb : Below w.heap.size w w') : GoldsP v w' := by
 obtain ⟨g, e, hg, hk⟩ := h
 refine ⟨g, e, Nat.lt_of_lt_of_le hg hb.size, fun k hk7 => ?_⟩
 obtain ⟨c0, c1, c2⟩ := hk k hk7
 exact ⟨(hb.cell (p := ⟨g, _, none⟩) hg).trans c0, (hb.cell (p := ⟨g, _, none⟩) hg).trans c1, (hb.cell (p := ⟨g, _, none⟩) hg).trans c2⟩
theorem golds_laid (w : World) (cs : Array Value) (t : TypeId) (h : cs = goldCells.toArray) : GoldsP (.slice (some ⟨w.heap.size, 0, none⟩) 16 16) (w.alloc (.cells cs t)) := by
 subst h
 have he : (w.alloc (.cells goldCells.toArray t)).heap[w.heap.size]? = some (.cells goldCells.toArray t (0, 0)) := heap_alloc_new w _
 have hc : ∀ k, (w.alloc (.cells goldCells.toArray t)).cell? ⟨w.heap.size, k, none⟩ = goldCells[k]? := fun k => by rw [cell_of_row _ _ _ _ _ _ he]; simp
 refine ⟨w.heap.size, rfl, by simp, fun k hk => ?_⟩
 rw [hc, hc, hc]
 match k, hk with
 | 0, _ => exact ⟨rfl, rfl, rfl⟩
 | 1, _ => exact ⟨rfl, rfl, rfl⟩
 | 2, _ => exact ⟨rfl, rfl, rfl⟩
 | 3, _ => exact ⟨rfl, rfl, rfl⟩
 | 4, _ => exact ⟨rfl, rfl, rfl⟩
 | 5, _ => exact ⟨rfl, rfl, rfl⟩
 | 6, _ => exact ⟨rfl, rfl, rfl⟩
 | 7, _ => exact ⟨rfl, rfl, rfl⟩
 | 8, _ => exact ⟨rfl, rfl, rfl⟩
 | 9, _ => exact ⟨rfl, rfl, rfl⟩
 | 10, _ => exact ⟨rfl, rfl, rfl⟩
 | 11, _ => exact ⟨rfl, rfl, rfl⟩
 | 12, _ => exact ⟨rfl, rfl, rfl⟩
 | 13, _ => exact ⟨rfl, rfl, rfl⟩
 | 14, _ => exact ⟨rfl, rfl, rfl⟩
 | 15, _ => exact ⟨rfl, rfl, rfl⟩
 | _ + 16, h => exact absurd h (by omega)
set_option maxRecDepth 100000 in
theorem golds_check (k : Nat) (h : k < 16) : checkP (goldAt k).text = ((goldAt k).e, (goldAt k).at') := by
 match k, h with
 | 0, _ => exact (by kernel_rfl : checkP (goldAt 0).text = ((goldAt 0).e, (goldAt 0).at'))
 | 1, _ => exact (by kernel_rfl : checkP (goldAt 1).text = ((goldAt 1).e, (goldAt 1).at'))
 | 2, _ => exact (by kernel_rfl : checkP (goldAt 2).text = ((goldAt 2).e, (goldAt 2).at'))
 | 3, _ => exact (by kernel_rfl : checkP (goldAt 3).text = ((goldAt 3).e, (goldAt 3).at'))
 | 4, _ => exact (by kernel_rfl : checkP (goldAt 4).text = ((goldAt 4).e, (goldAt 4).at'))
 | 5, _ => exact (by kernel_rfl : checkP (goldAt 5).text = ((goldAt 5).e, (goldAt 5).at'))
 | 6, _ => exact (by kernel_rfl : checkP (goldAt 6).text = ((goldAt 6).e, (goldAt 6).at'))
 | 7, _ => exact (by kernel_rfl : checkP (goldAt 7).text = ((goldAt 7).e, (goldAt 7).at'))
 | 8, _ => exact (by kernel_rfl : checkP (goldAt 8).text = ((goldAt 8).e, (goldAt 8).at'))
 | 9, _ => exact (by kernel_rfl : checkP (goldAt 9).text = ((goldAt 9).e, (goldAt 9).at'))
 | 10, _ => exact (by kernel_rfl : checkP (goldAt 10).text = ((goldAt 10).e, (goldAt 10).at'))
 | 11, _ => exact (by kernel_rfl : checkP (goldAt 11).text = ((goldAt 11).e, (goldAt 11).at'))
 | 12, _ => exact (by kernel_rfl : checkP (goldAt 12).text = ((goldAt 12).e, (goldAt 12).at'))
 | 13, _ => exact (by kernel_rfl : checkP (goldAt 13).text = ((goldAt 13).e, (goldAt 13).at'))
 | 14, _ => exact (by kernel_rfl : checkP (goldAt 14).text = ((goldAt 14).e, (goldAt 14).at'))
 | 15, _ => exact (by kernel_rfl : checkP (goldAt 15).text = ((goldAt 15).e, (goldAt 15).at'))
 | _ + 16, h => exact absurd h (by omega)
theorem golds_short (k : Nat) (h : k < 16) : (goldAt k).text.length ≤ 40 := by
 match k, h with
 | 0, _ => exact (by decide : (goldAt 0).text.length ≤ 40)
 | 1, _ => exact (by decide : (goldAt 1).text.length ≤ 40)
 | 2, _ => exact (by decide : (goldAt 2).text.length ≤ 40)
 | 3, _ => exact (by decide : (goldAt 3).text.length ≤ 40)
 | 4, _ => exact (by decide : (goldAt 4).text.length ≤ 40)
 | 5, _ => exact (by decide : (goldAt 5).text.length ≤ 40)
 | 6, _ => exact (by decide : (goldAt 6).text.length ≤ 40)
 | 7, _ => exact (by decide : (goldAt 7).text.length ≤ 40)
 | 8, _ => exact (by decide : (goldAt 8).text.length ≤ 40)
 | 9, _ => exact (by decide : (goldAt 9).text.length ≤ 40)
 | 10, _ => exact (by decide : (goldAt 10).text.length ≤ 40)
 | 11, _ => exact (by decide : (goldAt 11).text.length ≤ 40)
 | 12, _ => exact (by decide : (goldAt 12).text.length ≤ 40)
 | 13, _ => exact (by decide : (goldAt 13).text.length ≤ 40)
 | 14, _ => exact (by decide : (goldAt 14).text.length ≤ 40)
 | 15, _ => exact (by decide : (goldAt 15).text.length ≤ 40)
 | _ + 16, h => exact absurd h (by omega)
set_option maxRecDepth 100000 in
set_option maxHeartbeats 4000000 in
theorem golds_any (w : World) : Calls Tryz.prog 13 #[] w fun e w' => ∃ v, e = .returned v ∧ GoldsP v w' ∧ Below w.heap.size w w' := by
 have HB : Hid (∀ cs t, Below w.heap.size w (w.alloc (.cells cs t))) := fun cs t => (Below.refl _ _).alloc (Nat.le_refl _) _
 go_enter Tryz.func13, Tryz.ntmps13
 go_wp2_with fail
 go_ret
 exact ⟨_, rfl, golds_laid w _ _ rfl, HB.out _ _⟩
end Go.Proofs.YtdgmoiflahoihaaGreatDoor
