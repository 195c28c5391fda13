import Derived.Test.YtdgmoiflahoihaaGreatRValw

namespace Go.Proofs.YtdgmoiflahoihaaGreat
open Go.RowKit
set_option linter.unusedSimpArgs false
set_option linter.unusedVariables false
theorem rulesV_lower {n b : Nat} {w w' : World} {P : Nat → Prop} {v : Value} {l : List (RT n)} (h : RulesV n w P v l) (hP : ∀ k, P k → k < b) (hb : Below b w w') : RulesV n w' P v l :=
 rulesV_frame (fun k hk hl => ⟨hk, hb.block k (hP k hk)⟩) n v l h
theorem partsV_lower {b : Nat} {w w' : World} {P : Nat → Prop} {v : Value} {l : List Pt} (h : PartsV w P v l) (hP : ∀ k, P k → k < b) (hb : Below b w w') : PartsV w' P v l :=
 partsV_frame h (fun k hk hl => ⟨hk, hb.block k (hP k hk)⟩)
end Go.Proofs.YtdgmoiflahoihaaGreat
namespace Go.Proofs.YtdgmoiflahoihaaGreat
open Go.RowKit
set_option linter.unusedSimpArgs false
set_option linter.unusedVariables false
theorem Onto.more {b : Nat} {S R : Nat → Prop} {w w' : World} (h : Onto b S w w') (hs : ∀ k, S k → R k) : Onto b R w w' := ⟨h.os, h.tape, h.output, h.size, fun k hk hb hr => h.block k hk hb (fun e => hr (hs k e))⟩
theorem StepAt.more {b : Nat} {S R : Nat → Prop} {w w' : World} {s : SR} (h : StepAt b S w w' s) (hs : ∀ k, S k → R k) : StepAt b R w w' s :=
 ⟨h.state.weak (fun k hk _ _ => by rcases hk with hk | hk; exact .inl (hs k hk); exact .inr hk), h.onto.more hs⟩
end Go.Proofs.YtdgmoiflahoihaaGreat
namespace Go.Proofs.YtdgmoiflahoihaaGreat
open Go.RowKit
set_option linter.unusedSimpArgs false
set_option linter.unusedVariables false
end Go.Proofs.YtdgmoiflahoihaaGreat
namespace Go.Proofs.YtdgmoiflahoihaaGreat
open Go.RowKit
set_option linter.unusedSimpArgs false
set_option linter.unusedVariables false
theorem rules_at2 {n : Nat} {w : World} {P : Nat → Prop} {v : Value} {l : List (Core × List (RT n) × List (RT n))} (h : RowsC (fun cs q => RuleC (RulesV n w P) w P cs q) w P v l) :
  ∃ ao g cap, v = .slice ao l.length cap ∧ ∀ i, ∀ hi : i < l.length, ao = some ⟨g, 0, none⟩ ∧ P g ∧ ∃ cs, RuleC (RulesV n w P) w P cs l[i] ∧ ∀ j, j < 8 → w.cell? ⟨g, i * 8 + j, none⟩ = cs[j]? := by
 obtain ⟨ao, g, cap, hv, h2⟩ := rules_at h
 refine ⟨ao, g, cap, hv, fun i hi => ?_⟩
 obtain ⟨h3, _, h4⟩ := h2 i hi
 obtain ⟨xs, _, h6, _⟩ := h
 exact ⟨h3, h6 g (by rw [hv, h3]; rfl), h4⟩
end Go.Proofs.YtdgmoiflahoihaaGreat
