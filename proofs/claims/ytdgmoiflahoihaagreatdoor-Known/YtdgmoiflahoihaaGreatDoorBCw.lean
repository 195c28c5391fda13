import Derived.Test.YtdgmoiflahoihaaGreatDoorBBw
import Derived.Deep.MidRow
import Derived.Laws.ResultCell

namespace Go.Proofs.YtdgmoiflahoihaaGreatDoor
open Go.RowKit
set_option linter.unusedSimpArgs false
set_option linter.unusedVariables false
theorem results_range_tmp {P : Program} {fn : Func} {p u : Tmp} {ty : TypeId} (h : fn.results = #[.cell p ty, .tmp u]) (tmps : Array Value) (w : World) (g : Nat) (cs : List Value) (d : TypeDesc) (x : Value)
  (hp : tmps.getD p undef = .pointer (some ⟨g, 0, none⟩)) (hx : tmps.getD u undef = x) (hc : w.rangeAt g 0 cs)
  (hu : P.underlying ty = some d) (hd : d.isRow = true) (hi : (P.info? ty).map (·.size) = some cs.length) :
  (results fn tmps).run P w = .ok (.tuple #[.agg cs.toArray, x]) w := by
 have hl := run_loadVar_mid (P := P) w g 0 ty cs d hc hu hd hi
 rw [results_cell_tmp h, hp, hx]
 simp [asAddr, hl, Result.andThen]
theorem arrV_list (R : List Nat) : (R.map natV).toArray = arrV R := by simp [arrV]
end Go.Proofs.YtdgmoiflahoihaaGreatDoor
