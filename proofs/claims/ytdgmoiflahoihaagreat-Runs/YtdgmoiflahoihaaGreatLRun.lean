import Derived.Test.YtdgmoiflahoihaaGreatRAR
import Derived.Test.YtdgmoiflahoihaaGreatRRun
import Derived.Test.YtdgmoiflahoihaaGreatLI

/- The law's own 'run'. -/
namespace Go.Proofs.YtdgmoiflahoihaaGreat
open Go.RowKit
set_option linter.unusedSimpArgs false
set_option linter.unusedVariables false

theorem notes_nil (w : World) : (binOp BinOp.eql 23 (.slice none 0 0) (.slice none 0 0)).run Tryz.prog w = .ok (.bool true) w := by
  have k := run_eql_nil_slice (P := Tryz.prog) w 23 57 none 0 0 0 0 Tryz.underlying23
  simpa using k

theorem ints_of_num {w : World} {g cap : Nat} {l : List Int} (h : NumCells w (some ⟨g, 0, none⟩) g 0 l) : IntsAt w (fun k => k < w.heap.size) (.slice (some ⟨g, 0, none⟩) l.length cap) l :=
  ⟨some ⟨g, 0, none⟩, g, cap, rfl, fun i hi => by
    obtain ⟨_, b, c⟩ := h i hi
    rw [Nat.zero_add] at c
    exact ⟨rfl, b, c⟩⟩

/-- The program's Run, at the law's list. -/
theorem progRun_any (s : ByteArray) (fs : List Int) (g cap : Nat) (w : World) (hs : s.size ≤ maxLen) (hf : NumCells w (some ⟨g, 0, none⟩) g 0 fs) (hfl : fs.length ≤ maxLen) (hfo : FsOk fs) :
    Calls Tryz.prog 8 #[.string s, .slice (some ⟨g, 0, none⟩) fs.length cap] w (RunPost w (runP s.data.toList fs)) :=
  tariffRun_any s fs _ w (fun k => k < w.heap.size) hs (fun h hb => parse_ok (by simpa using h) hb) (fun _ => parse_nums _) (ints_of_num hf) (fun _ h => h) hfl hfo

/-- What the law's run answers: true, and a fresh row of notes. -/
def LawRun (w : World) (e : Ending) (w' : World) : Prop :=
  (∃ v N, e = .returned (.tuple #[v, .bool true]) ∧ w'.ownsRow w.heap.size 57 5 v N.length (ntCells N)) ∧ Below w.heap.size w w'

set_option maxRecDepth 100000 in
set_option maxHeartbeats 4000000 in
theorem run_walk (s : ByteArray) (fs : List Int) (af : Option Addr) (gf of capf : Nat) (w : World) (hs : s.size ≤ maxLen) (hf : NumCells w af gf of fs) (hm : 8 * (fs.length + 2) ≤ 281474976710656) (hfo : FsOk fs) :
    Calls Tryz.prog 5 #[.string s, .slice af fs.length capf] w (LawRun w) := by
  have HF : Hid (NumCells w af gf of fs) := hf
  have HP : Hid (∀ g cap (w : World), NumCells w (some ⟨g, 0, none⟩) g 0 fs → Calls Tryz.prog 8 #[.string s, .slice (some ⟨g, 0, none⟩) fs.length cap] w (RunPost w (runP s.data.toList fs))) := fun g cap w h => progRun_any s fs g cap w hs h (by unfold maxLen; omega) hfo
  have HR : Hid (∀ (w : World), NumCells w af gf of fs → Calls Tryz.prog 9 #[.string s, .slice af fs.length capf] w (RunPost w (runP s.data.toList fs))) := fun w h => refRun_any s fs af gf of capf w hs h (by omega) hfo
  have hfew := runP_few s.data.toList fs hfo
  generalize runP s.data.toList fs = R at *
  obtain ⟨er, N⟩ := R
  simp only at hfew
  clear hf hfo
  by_cases h0 : er = 0
  · subst h0
    go_enter Tryz.func5, Tryz.ntmps5
    go_wp2_with (first | (go_at_call 7; refine (fieldsOf_any fs af gf of capf _ HF.out hm).mono ?_; rintro e w1 ⟨rfl, hg1, hb1⟩; have HG1 : Hid (w1.heap[w.heap.size]? = some (.cells (numRow fs ++ mark2).toArray 3 (0, 0))) := hg1; have HB1 : Hid (Below w.heap.size w w1) := hb1; have hlt1 : w.heap.size < w1.heap.size := (Array.getElem?_eq_some_iff.mp hg1).1; clear hg1 hb1) | (go_at_call 8; refine (HP.out w.heap.size _ _ (num_of_row HG1.out)).mono ?_; rintro e w2 ⟨⟨va, rfl, ha1, ha2⟩, hb2⟩; have HOA : Hid (w2.ownsRow w1.heap.size 57 5 va N.length (ntCells N)) := ha2; obtain ⟨aa, ga, ca, rfl, hna⟩ := notes_form ha2; have HNA : Hid (NoteCells w2 aa ga N) := hna; have HB2 : Hid (Below w1.heap.size w1 w2) := hb2; clear hb2 ha1 ha2 hna) | (go_at_call 9; refine (HR.out _ ((HF.out.below HB1.out).below HB2.out)).mono ?_; rintro e w3 ⟨⟨vb, rfl, hc1, hc2⟩, hb3⟩; obtain ⟨ab, gb, cb, rfl, hnb⟩ := notes_form hc2; have HNB : Hid (NoteCells w3 ab gb N) := hnb; have HB3 : Hid (Below w2.heap.size w2 w3) := hb3; clear hb3 hc1 hc2 hnb) | (go_at_call 10; refine (stillInts_any fs w.heap.size af gf of capf _ (by rw [HB3.out.block _ (by have := HB2.out.size; omega), HB2.out.block _ hlt1]; exact HG1.out) (((HF.out.below HB1.out).below HB2.out).below HB3.out) hm).mono ?_; rintro e w4 ⟨rfl, hb4⟩; have HB4 : Hid (Below w3.heap.size w3 w4) := hb4; clear hb4) | (go_at_call 11; refine (sameNotes_any N _ _ ga _ gb _ _ ((HNA.out.below HB3.out).below HB4.out) (HNB.out.below HB4.out) (by omega)).mono ?_; rintro e w5 ⟨rfl, hb5⟩; have HB5 : Hid (Below w4.heap.size w4 w5) := hb5; clear hb5))
    go_ret2
    have s1 := HB1.out.size
    have s2 := HB2.out.size
    have s3 := HB3.out.size
    have s4 := HB4.out.size
    refine ⟨⟨_, N, rfl, ?_⟩, (((HB1.out.trans (HB2.out.mono (by omega))).trans (HB3.out.mono (by omega))).trans (HB4.out.mono (by omega))).trans (HB5.out.mono (by omega))⟩
    exact ownsRow_base (own_low (own_low (own_low HOA.out HB3.out (Nat.le_refl _)) HB4.out (Nat.le_refl _)) HB5.out (Nat.le_refl _)) (by omega)
  · have t0 : (er != 0) = true := by simpa using h0
    have t1 : (er == er) = true := by simp
    have t2 : (er != er) = false := by simp
    have hnil : ∀ w : World, (binOp BinOp.eql 23 (.slice none 0 0) (.slice none 0 0)).run Tryz.prog w = .ok (.bool true) w := fun w => notes_nil w
    go_enter Tryz.func5, Tryz.ntmps5
    go_wp2_with (first | (go_at_call 7; refine (fieldsOf_any fs af gf of capf _ HF.out hm).mono ?_; rintro e w1 ⟨rfl, hg1, hb1⟩; have HG1 : Hid (w1.heap[w.heap.size]? = some (.cells (numRow fs ++ mark2).toArray 3 (0, 0))) := hg1; have HB1 : Hid (Below w.heap.size w w1) := hb1; have hlt1 : w.heap.size < w1.heap.size := (Array.getElem?_eq_some_iff.mp hg1).1; clear hg1 hb1) | (go_at_call 8; refine (HP.out w.heap.size _ _ (num_of_row HG1.out)).mono ?_; rintro e w2 ⟨⟨va, rfl, ha1, ha2⟩, hb2⟩; obtain rfl := ha1 h0; have HB2 : Hid (Below w1.heap.size w1 w2) := hb2; clear hb2 ha1 ha2) | (go_at_call 9; refine (HR.out _ ((HF.out.below HB1.out).below HB2.out)).mono ?_; rintro e w3 ⟨⟨vb, rfl, hc1, hc2⟩, hb3⟩; obtain rfl := hc1 h0; have HB3 : Hid (Below w2.heap.size w2 w3) := hb3; clear hb3 hc1 hc2) | (go_at_call 10; refine (stillInts_any fs w.heap.size af gf of capf _ (by rw [HB3.out.block _ (by have := HB2.out.size; omega), HB2.out.block _ hlt1]; exact HG1.out) (((HF.out.below HB1.out).below HB2.out).below HB3.out) hm).mono ?_; rintro e w4 ⟨rfl, hb4⟩; have HB4 : Hid (Below w3.heap.size w3 w4) := hb4; clear hb4))
    go_ret2
    have s1 := HB1.out.size
    have s2 := HB2.out.size
    have s3 := HB3.out.size
    exact ⟨⟨_, [], rfl, World.ownsRow_nil ..⟩, ((HB1.out.trans (HB2.out.mono (by omega))).trans (HB3.out.mono (by omega))).trans (HB4.out.mono (by omega))⟩

set_option maxRecDepth 100000 in
set_option maxHeartbeats 1000000 in
theorem runs_walk (s : ByteArray) (fs : List Int) (af : Option Addr) (gf of capf : Nat) (w : World) (hs : s.size ≤ maxLen) (hf : NumCells w af gf of fs) (hm : 8 * (fs.length + 2) ≤ 281474976710656) (hfo : FsOk fs) :
    Calls Tryz.prog 3 #[.string s, .slice af fs.length capf] w fun e w' => e = .returned (.bool true) ∧ Below w.heap.size w w' := by
  have HE : Hid (Calls Tryz.prog 5 #[.string s, .slice af fs.length capf] w (LawRun w)) := run_walk s fs af gf of capf w hs hf hm hfo
  clear hf hfo
  go_enter Tryz.func3, Tryz.ntmps3
  go_wp2_with (go_at_call 5; refine HE.out.mono ?_; rintro e w1 ⟨⟨v, N, rfl, hv⟩, hb1⟩; clear hv)
  go_ret
  exact ⟨rfl, hb1⟩

end Go.Proofs.YtdgmoiflahoihaaGreat
