import Derived.Test.YtdgmoiflahoihabGreatDoorRTakew
import Derived.Test.YtdgmoiflahoihabGreatDoorPCheckw
import Derived.Test.YtdgmoiflahoihabGreatDoorLNtw
import Derived.Test.YtdgmoiflahoihabGreatDoorLNmw

namespace Go.Proofs.YtdgmoiflahoihabGreatDoor
open Go.RowKit
set_option linter.unusedSimpArgs false
set_option linter.unusedVariables false
theorem runP_few (t : List UInt8) (fs : List Int) (hf : FsOk fs) : (runP t fs).2.length ≤ 5000 := by
 unfold runP
 split
 ·simp
 rename_i h0
 split
 ·simp
 have h0' : (checkP t).1 = 0 := by simpa using h0
 obtain ⟨h1, h2, h3, h4, h5⟩ := checkP_ok h0'
 have hp := parse_ok h1 h2
 have hfo := fillV_ok (parseH t).2 fs vals0 hf rfl (fun v hv => by have := List.eq_of_mem_replicate hv; rw [this]; exact vl0_ok)
 have k := (doF_ok 9 (parseR t).2 (fillV (parseH t).2 fs vals0, []) (parse_nums t) hp.tree ⟨hfo.1, hfo.2⟩).2
 simp at k
 show (doF 9 (fillV (parseH t).2 fs vals0, []) (parseR t).2).2.length ≤ 5000
 omega
theorem ints_of_num {w : World} {g cap : Nat} {l : List Int} (h : NumCells w (some ⟨g, 0, none⟩) g 0 l) : IntsAt w (fun k => k < w.heap.size) (.slice (some ⟨g, 0, none⟩) l.length cap) l :=
 ⟨some ⟨g, 0, none⟩, g, cap, rfl, fun i hi => by
  obtain ⟨_, b, c⟩ := h i hi
  rw [Nat.zero_add] at c
  exact ⟨rfl, b, c⟩⟩
theorem progText_any (s : ByteArray) (fs : List Int) (g cap : Nat) (w : World) (hs : s.size ≤ maxLen) (hf : NumCells w (some ⟨g, 0, none⟩) g 0 fs) (hfl : fs.length ≤ maxLen) (hfo : FsOk fs) :
  Calls Tryz.prog 28 #[.string s, .slice (some ⟨g, 0, none⟩) fs.length cap] w (RunPost w (runP s.data.toList fs)) :=
 runText_any s fs _ w (fun k => k < w.heap.size) hs (fun h hb => parse_ok (by simpa using h) hb) (fun _ => parse_nums _) (ints_of_num hf) (fun _ h => h) hfl hfo
end Go.Proofs.YtdgmoiflahoihabGreatDoor
namespace Go.Proofs.YtdgmoiflahoihabGreatDoor
open Go.RowKit
set_option linter.unusedSimpArgs false
set_option linter.unusedVariables false
end Go.Proofs.YtdgmoiflahoihabGreatDoor
