import Derived.Test.YtdgmoiflahoihabRRunx

namespace Go.Proofs.Ytdgmoiflahoihab
open Go.RowKit
set_option linter.unusedSimpArgs false
set_option linter.unusedVariables false
set_option maxRecDepth 100000 in
set_option maxHeartbeats 2000000 in
theorem tariffRun_any (s : ByteArray) (fs : List Int) (vf : Value) (w : World) (P : Nat → Prop) (hs : s.size ≤ maxLen) (hpo : s.size ≤ 400 → (parseR s.data.toList).1.bad = false → ParseOk s.data.toList) (hnm : (checkP s.data.toList).1 = 0 → NumsOk 9 (parseR s.data.toList).2) (hf : IntsAt w P vf fs) (hP : ∀ k, P k → k < w.heap.size) (hfl : fs.length ≤ maxLen) (hfr : ∀ x ∈ fs, -9223372036854775808 ≤ x ∧ x ≤ 9223372036854775807) :
  Calls Try.prog 8 #[.string s, vf] w (RunPost w (runP s.data.toList fs)) := by
 have H : Calls Try.prog 14 #[.string s, vf] w (RunPost w (runP s.data.toList fs)) := runText_any s fs vf w P hs hpo hnm hf hP hfl hfr
 generalize runP s.data.toList fs = RP at *
 have HH : Hid (Calls Try.prog 14 #[.string s, vf] w (RunPost w RP)) := H
 clear H hpo hnm hf hP hfr
 go_enter Try.func8, Try.ntmps8
 go_wp2_with fail
 refine HH.out.mono ?_
 rintro e w1 ⟨⟨vn, rfl, h1, h2⟩, hb⟩
 go_wp2_with fail
 go_ret2
 exact ⟨⟨vn, rfl, h1, h2⟩, hb⟩
end Go.Proofs.Ytdgmoiflahoihab
