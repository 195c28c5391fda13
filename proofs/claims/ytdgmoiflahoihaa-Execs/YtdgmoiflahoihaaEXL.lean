import Derived.Test.YtdgmoiflahoihaaEXTop
import Derived.Test.YtdgmoiflahoihaaEXT5
import Derived.Test.YtdgmoiflahoihaaELI
import Derived.Test.YtdgmoiflahoihaaEVL

namespace Go.Proofs.Ytdgmoiflahoihaa
open Go.RowKit
set_option linter.unusedSimpArgs false
set_option linter.unusedVariables false
theorem nil_eql (w : World) : (binOp BinOp.eql 35 (.slice none 0 0) (.slice none 0 0)).run Try.prog w = .ok (.bool true) w := by
 have k := run_eql_nil_slice (P := Try.prog) w 35 88 none 0 0 0 0 Try.underlying35
 simpa using k
set_option maxRecDepth 100000 in
set_option maxHeartbeats 4000000 in
theorem exec_walk (l : List Ic) (fs : List Int) (ao af : Option Addr) (g o cap gf of capf : Nat) (w : World) (hc : InsCells w ao g o l) (hf : NumCells w af gf of fs) (hn : 32 * (l.length + 2) ≤ 281474976710656) (hm : 8 * (fs.length + 2) ≤ 281474976710656) (hlo : ∀ x ∈ l, -9223372036854775808 ≤ x.b ∧ x.b ≤ 9223372036854775807) (hfo : FsOk fs) :
  Calls Try.prog 17 #[.slice ao l.length cap, .slice af fs.length capf] w fun e w' => (∃ v, e = .returned (.tuple #[v, .bool true])) ∧ Below w.heap.size w w' := by
 have HC : Hid (InsCells w ao g o l) := hc
 have HF : Hid (NumCells w af gf of fs) := hf
 have HP : Hid (∀ ao g o cap af gf of capf (w : World), InsCells w ao g o l → NumCells w af gf of fs → Calls Try.prog 37 #[.slice ao l.length cap, .slice af fs.length capf] w (ExecPost w (execI l fs))) := fun ao g o cap af gf of capf w h1 h2 => tariffExec_any l fs ao af g o cap gf of capf w h1 h2 (by omega) hlo hfo
 have HR : Hid (∀ ao g o cap af gf of capf (w : World), InsCells w ao g o l → NumCells w af gf of fs → Calls Try.prog 38 #[.slice ao l.length cap, .slice af fs.length capf] w (ExecPost w (execI l fs))) := fun ao g o cap af gf of capf w h1 h2 => refExec_any l fs ao af g o cap gf of capf w h1 h2 (by omega) hlo hfo
 have hfew := execI_few l fs
 generalize execI l fs = R at *
 obtain ⟨er, N⟩ := R
 simp only at hfew
 clear hc hf hlo hfo
 by_cases h0 : er = 0
 ·subst h0
  go_enter Try.func17, Try.ntmps17
  go_wp2_with (first | (go_at_call 13; refine (codeOf_any l ao g o cap _ HC.out hn).mono ?_; rintro e w1 ⟨rfl, hg1, hb1⟩; have HG1 : Hid (w1.heap[w.heap.size]? = some (.cells (icRow l ++ markRow).toArray 70 (0, 0))) := hg1; have HB1 : Hid (Below w.heap.size w w1) := hb1; have hlt1 : w.heap.size < w1.heap.size := (Array.getElem?_eq_some_iff.mp hg1).1; clear hg1 hb1) | (go_at_call 36; refine (fieldsOf_any fs af gf of capf _ (HF.out.below HB1.out) hm).mono ?_; rintro e w2 ⟨rfl, hg2, hb2⟩; have HG2 : Hid (w2.heap[w1.heap.size]? = some (.cells (numRow fs ++ mark2).toArray 3 (0, 0))) := hg2; have HB2 : Hid (Below w1.heap.size w1 w2) := hb2; have hlt2 : w1.heap.size < w2.heap.size := (Array.getElem?_eq_some_iff.mp hg2).1; clear hg2 hb2) | (go_at_call 37; refine (HP.out _ w.heap.size 0 _ _ w1.heap.size 0 _ _ ((ins_of_row HG1.out).below HB2.out) (num_of_row HG2.out)).mono ?_; rintro e w3 ⟨⟨va, rfl, ha1, ha2⟩, hb3⟩; obtain ⟨aa, ga, ca, rfl, hna⟩ := notes_form ha2; have HNA : Hid (NoteCells w3 aa ga N) := hna; have HB3 : Hid (Below w2.heap.size w2 w3) := hb3; clear hb3 ha1 ha2 hna) | (go_at_call 38; refine (HR.out _ g o _ _ gf of _ _ (((HC.out.below HB1.out).below HB2.out).below HB3.out) (((HF.out.below HB1.out).below HB2.out).below HB3.out)).mono ?_; rintro e w4 ⟨⟨vb, rfl, ha1, ha2⟩, hb4⟩; obtain ⟨ab, gb, cb, rfl, hnb⟩ := notes_form ha2; have HNB : Hid (NoteCells w4 ab gb N) := hnb; have HB4 : Hid (Below w3.heap.size w3 w4) := hb4; clear hb4 ha1 ha2 hnb) | (go_at_call 16; refine (stillCode_any l w.heap.size ao g o cap _ (by rw [HB4.out.block _ (by have := HB2.out.size; have := HB3.out.size; omega), HB3.out.block _ (by have := HB2.out.size; omega), HB2.out.block _ hlt1]; exact HG1.out) ((((HC.out.below HB1.out).below HB2.out).below HB3.out).below HB4.out) hn).mono ?_; rintro e w5 ⟨rfl, hb5⟩; have HB5 : Hid (Below w4.heap.size w4 w5) := hb5; clear hb5) | (go_at_call 39; refine (stillInts_any fs w1.heap.size af gf of capf _ (by rw [HB5.out.block _ (by have := HB3.out.size; have := HB4.out.size; omega), HB4.out.block _ (by have := HB3.out.size; omega), HB3.out.block _ hlt2]; exact HG2.out) (((((HF.out.below HB1.out).below HB2.out).below HB3.out).below HB4.out).below HB5.out) hm).mono ?_; rintro e w6 ⟨rfl, hb6⟩; have HB6 : Hid (Below w5.heap.size w5 w6) := hb6; clear hb6) | (go_at_call 40; refine (sameNotes_any N _ _ ga _ gb _ _ (((HNA.out.below HB4.out).below HB5.out).below HB6.out) ((HNB.out.below HB5.out).below HB6.out) (by omega)).mono ?_; rintro e w7 ⟨rfl, hb7⟩; have HB7 : Hid (Below w6.heap.size w6 w7) := hb7; clear hb7))
  go_ret2
  refine ⟨⟨_, rfl⟩, ?_⟩
  have s2 := HB2.out.size
  have s3 := HB3.out.size
  have s4 := HB4.out.size
  have s5 := HB5.out.size
  have s6 := HB6.out.size
  exact (((((HB1.out.trans (HB2.out.mono (by omega))).trans (HB3.out.mono (by omega))).trans (HB4.out.mono (by omega))).trans (HB5.out.mono (by omega))).trans (HB6.out.mono (by omega))).trans (HB7.out.mono (by omega))
 ·have t0 : (er != 0) = true := by simpa using h0
  have t1 : (er == er) = true := by simp
  have t2 : (er != er) = false := by simp
  have hnil : ∀ w : World, (binOp BinOp.eql 35 (.slice none 0 0) (.slice none 0 0)).run Try.prog w = .ok (.bool true) w := fun w => nil_eql w
  go_enter Try.func17, Try.ntmps17
  go_wp2_with (first | (go_at_call 13; refine (codeOf_any l ao g o cap _ HC.out hn).mono ?_; rintro e w1 ⟨rfl, hg1, hb1⟩; have HG1 : Hid (w1.heap[w.heap.size]? = some (.cells (icRow l ++ markRow).toArray 70 (0, 0))) := hg1; have HB1 : Hid (Below w.heap.size w w1) := hb1; have hlt1 : w.heap.size < w1.heap.size := (Array.getElem?_eq_some_iff.mp hg1).1; clear hg1 hb1) | (go_at_call 36; refine (fieldsOf_any fs af gf of capf _ (HF.out.below HB1.out) hm).mono ?_; rintro e w2 ⟨rfl, hg2, hb2⟩; have HG2 : Hid (w2.heap[w1.heap.size]? = some (.cells (numRow fs ++ mark2).toArray 3 (0, 0))) := hg2; have HB2 : Hid (Below w1.heap.size w1 w2) := hb2; have hlt2 : w1.heap.size < w2.heap.size := (Array.getElem?_eq_some_iff.mp hg2).1; clear hg2 hb2) | (go_at_call 37; refine (HP.out _ w.heap.size 0 _ _ w1.heap.size 0 _ _ ((ins_of_row HG1.out).below HB2.out) (num_of_row HG2.out)).mono ?_; rintro e w3 ⟨⟨va, rfl, ha1, ha2⟩, hb3⟩; obtain rfl := ha1 h0; have HB3 : Hid (Below w2.heap.size w2 w3) := hb3; clear hb3 ha1 ha2) | (go_at_call 38; refine (HR.out _ g o _ _ gf of _ _ (((HC.out.below HB1.out).below HB2.out).below HB3.out) (((HF.out.below HB1.out).below HB2.out).below HB3.out)).mono ?_; rintro e w4 ⟨⟨vb, rfl, ha1, ha2⟩, hb4⟩; obtain rfl := ha1 h0; have HB4 : Hid (Below w3.heap.size w3 w4) := hb4; clear hb4 ha1 ha2) | (go_at_call 16; refine (stillCode_any l w.heap.size ao g o cap _ (by rw [HB4.out.block _ (by have := HB2.out.size; have := HB3.out.size; omega), HB3.out.block _ (by have := HB2.out.size; omega), HB2.out.block _ hlt1]; exact HG1.out) ((((HC.out.below HB1.out).below HB2.out).below HB3.out).below HB4.out) hn).mono ?_; rintro e w5 ⟨rfl, hb5⟩; have HB5 : Hid (Below w4.heap.size w4 w5) := hb5; clear hb5) | (go_at_call 39; refine (stillInts_any fs w1.heap.size af gf of capf _ (by rw [HB5.out.block _ (by have := HB3.out.size; have := HB4.out.size; omega), HB4.out.block _ (by have := HB3.out.size; omega), HB3.out.block _ hlt2]; exact HG2.out) (((((HF.out.below HB1.out).below HB2.out).below HB3.out).below HB4.out).below HB5.out) hm).mono ?_; rintro e w6 ⟨rfl, hb6⟩; have HB6 : Hid (Below w5.heap.size w5 w6) := hb6; clear hb6))
  go_ret2
  refine ⟨⟨_, rfl⟩, ?_⟩
  have s2 := HB2.out.size
  have s3 := HB3.out.size
  have s4 := HB4.out.size
  have s5 := HB5.out.size
  exact ((((HB1.out.trans (HB2.out.mono (by omega))).trans (HB3.out.mono (by omega))).trans (HB4.out.mono (by omega))).trans (HB5.out.mono (by omega))).trans (HB6.out.mono (by omega))
set_option maxRecDepth 100000 in
set_option maxHeartbeats 1000000 in
theorem execs_walk (l : List Ic) (fs : List Int) (ao af : Option Addr) (g o cap gf of capf : Nat) (w : World) (hc : InsCells w ao g o l) (hf : NumCells w af gf of fs) (hn : 32 * (l.length + 2) ≤ 281474976710656) (hm : 8 * (fs.length + 2) ≤ 281474976710656) (hlo : ∀ x ∈ l, -9223372036854775808 ≤ x.b ∧ x.b ≤ 9223372036854775807) (hfo : FsOk fs) :
  Calls Try.prog 6 #[.slice ao l.length cap, .slice af fs.length capf] w fun e w' => e = .returned (.bool true) ∧ Below w.heap.size w w' := by
 have HE : Hid (Calls Try.prog 17 #[.slice ao l.length cap, .slice af fs.length capf] w fun e w' => (∃ v, e = .returned (.tuple #[v, .bool true])) ∧ Below w.heap.size w w') := exec_walk l fs ao af g o cap gf of capf w hc hf hn hm hlo hfo
 clear hc hf hlo hfo
 go_enter Try.func6, Try.ntmps6
 go_wp2_with (go_at_call 17; refine HE.out.mono ?_; rintro e w1 ⟨⟨v, rfl⟩, hb1⟩)
 go_ret
 exact ⟨rfl, hb1⟩
end Go.Proofs.Ytdgmoiflahoihaa
