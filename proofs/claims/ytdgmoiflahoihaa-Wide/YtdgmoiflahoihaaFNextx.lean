import Derived.Test.YtdgmoiflahoihaaFWalkx
import Derived.RegionTactic
import Derived.ChangeAlike

namespace Go.Proofs.Ytdgmoiflahoihaa
open Go.RowKit
set_option linter.unusedSimpArgs false
set_option linter.unusedVariables false
end Go.Proofs.Ytdgmoiflahoihaa
namespace Go.Proofs.Ytdgmoiflahoihaa
open Go.RowKit
set_option linter.unusedSimpArgs false
set_option linter.unusedVariables false
structure FormAt (w : World) (b : Nat) (f : Fm) : Prop where
 c0 : w.cell? ⟨b, 0, none⟩ = some (.int .i64 f.st)
 c1 : w.cell? ⟨b, 1, none⟩ = some (.string (bs f.op))
 c2 : w.cell? ⟨b, 2, none⟩ = some (.bool f.body)
 c3 : w.cell? ⟨b, 3, none⟩ = some (.int .i64 f.digits)
 c4 : w.cell? ⟨b, 4, none⟩ = some (.int .i64 f.last)
 c5 : w.cell? ⟨b, 5, none⟩ = some (.int .i64 f.purpose)
 c6 : w.cell? ⟨b, 6, none⟩ = some (.bool f.related)
 c7 : w.cell? ⟨b, 7, none⟩ = some (.string (bs f.block))
 fz : ∀ o, w.frozen? ⟨b, o, none⟩ = false
 lt : b < w.heap.size
def objOf (f : Fm) : Obj := FO f.st (bs f.op) f.body f.digits f.last f.purpose f.related (bs f.block)
theorem FormAt.below {W w1 : World} {b : Nat} {f : Fm} {B : Nat} (h : FormAt W b f) (hb : Below B W w1) (hB : b < B) : FormAt w1 b f := by
 obtain ⟨c0, c1, c2, c3, c4, c5, c6, c7, fz, lt⟩ := h
 have hc := fun o => hb.cell (p := ⟨b, o, none⟩) hB
 have hf := fun o => hb.frozen (p := ⟨b, o, none⟩) hB
 have hz := hb.size
 exact ⟨by rw [hc, c0], by rw [hc, c1], by rw [hc, c2], by rw [hc, c3], by rw [hc, c4], by rw [hc, c5], by rw [hc, c6], by rw [hc, c7], fun o => by rw [hf, fz], by omega⟩
theorem FormAt.new (W : World) (f : Fm) : FormAt (W.alloc (objOf f)) W.heap.size f := by
 constructor
 all_goals simp [go_sem, objOf, FO]
theorem FormAt.drew {W : World} {b : Nat} {f : Fm} (h : FormAt W b f) : FormAt W.drew b f := by
 obtain ⟨c0, c1, c2, c3, c4, c5, c6, c7, fz, lt⟩ := h
 exact ⟨c0, c1, c2, c3, c4, c5, c6, c7, fz, lt⟩
end Go.Proofs.Ytdgmoiflahoihaa
