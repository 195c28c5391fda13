import Derived.Test.YtdgmoiflahoihaaGreatRARw
import Derived.Test.YtdgmoiflahoihaaGreatGW3w
import Derived.Test.YtdgmoiflahoihaaGreatXRw
import Derived.Test.YtdgmoiflahoihaaGreatLIw

namespace Go.Proofs.YtdgmoiflahoihaaGreat
open Go.RowKit
set_option linter.unusedSimpArgs false
set_option linter.unusedVariables false
theorem code_nil (w : World) : (binOp BinOp.eql 27 (.slice none 0 0) (.slice none 0 0)).run Tryz.prog w = .ok (.bool true) w := by
 have k := run_eql_nil_slice (P := Tryz.prog) w 27 64 none 0 0 0 0 Tryz.underlying27
 simpa using k
theorem ins_form {w : World} {base : Nat} {v : Value} {l : List Ic} (h : w.ownsRow base 64 4 v l.length (icRow l)) : ∃ ao g cap, v = .slice ao l.length cap ∧ InsCells w ao g 0 l := by
 have hln := icRow_length l
 rcases h.2 with ⟨rfl, h0⟩ | ⟨g, cap, cur, rfl, hb, hg, hc, hm, hcs, ht⟩
 ·exact ⟨none, 0, 0, by rw [h0], fun i hi => absurd hi (by omega)⟩
 ·refine ⟨some ⟨g, 0, none⟩, g, cap, rfl, fun i hi => ⟨rfl, (h.lt g rfl).2, ?_, ?_, ?_, ?_⟩⟩
  ·rw [Nat.zero_add, h.cellAt (i * 4) (by omega)]; exact (icRow_at l i hi).1
  ·rw [Nat.zero_add, h.cellAt (i * 4 + 1) (by omega)]; exact (icRow_at l i hi).2.1
  ·rw [Nat.zero_add, h.cellAt (i * 4 + 2) (by omega)]; exact (icRow_at l i hi).2.2.1
  ·rw [Nat.zero_add, h.cellAt (i * 4 + 3) (by omega)]; exact (icRow_at l i hi).2.2.2
def LawComp (w : World) (e : Ending) (w' : World) : Prop :=
 (∃ v N, e = .returned (.tuple #[v, .bool true]) ∧ w'.ownsRow w.heap.size 64 4 v N.length (icRow N)) ∧ Below w.heap.size w w'
set_option maxRecDepth 100000 in
set_option maxHeartbeats 4000000 in
theorem compiled_err (s : ByteArray) (vf : Value) (w : World) (hs : s.size ≤ maxLen) (h0 : (checkP s.data.toList).1 ≠ 0) :
  Calls Tryz.prog 6 #[.string s, vf] w (LawComp w) := by
 have HP : Hid (∀ w : World, Calls Tryz.prog 12 #[.string s] w (CompPost w (compP s.data.toList))) := fun w => tariffCompile_any s w hs
 have HR : Hid (∀ w : World, Calls Tryz.prog 13 #[.string s] w fun e w' => e = .returned (.tuple #[.int .i64 (checkP s.data.toList).1, .int .i64 (checkP s.data.toList).2]) ∧ Below w.heap.size w w') := fun w => refCheck_any s w _ hs (check_eq _)
 have e : compP s.data.toList = ((checkP s.data.toList).1, []) := by unfold compP; rw [if_pos h0]
 rw [e] at HP
 clear e
 generalize checkP s.data.toList = y at *
 obtain ⟨er, y2⟩ := y
 simp only at HR HP h0
 have t0 : (er != 0) = true := by simpa using h0
 have t1 : (er == er) = true := by simp
 have t2 : (er != er) = false := by simp
 have hnil : ∀ w : World, (binOp BinOp.eql 27 (.slice none 0 0) (.slice none 0 0)).run Tryz.prog w = .ok (.bool true) w := fun w => code_nil w
 go_enter Tryz.func6, Tryz.ntmps6
 go_wp2_with (first | (go_at_call 12; refine (HP.out _).mono ?_; rintro e w1 ⟨⟨va, rfl, ha1, ha2⟩, hb1⟩; obtain rfl := ha1 h0; have HB1 : Hid (Below w.heap.size w w1) := hb1; clear hb1 ha1 ha2) | (go_at_call 13; refine (HR.out _).mono ?_; rintro e w2 ⟨rfl, hb2⟩; have HB2 : Hid (Below w1.heap.size w1 w2) := hb2; clear hb2))
 go_ret2
 exact ⟨⟨_, [], rfl, World.ownsRow_nil ..⟩, HB1.out.trans (HB2.out.mono HB1.out.size)⟩
set_option maxRecDepth 100000 in
set_option maxHeartbeats 4000000 in
theorem compiled_ok (s : ByteArray) (fs : List Int) (af : Option Addr) (gf of capf : Nat) (w : World) (hs : s.size ≤ maxLen) (hf : NumCells w af gf of fs) (hm : 8 * (fs.length + 2) ≤ 281474976710656) (hfo : FsOk fs) (h0 : (checkP s.data.toList).1 = 0) :
  Calls Tryz.prog 6 #[.string s, .slice af fs.length capf] w (LawComp w) := by
 have hgf := gen_facts h0
 have HP : Hid (∀ w : World, Calls Tryz.prog 12 #[.string s] w (CompPost w (compP s.data.toList))) := fun w => tariffCompile_any s w hs
 have HR : Hid (∀ w : World, Calls Tryz.prog 13 #[.string s] w fun e w' => e = .returned (.tuple #[.int .i64 (checkP s.data.toList).1, .int .i64 (checkP s.data.toList).2]) ∧ Below w.heap.size w w') := fun w => refCheck_any s w _ hs (check_eq _)
 have e : compP s.data.toList = (0, genP s.data.toList) := by unfold compP; rw [if_neg (by simpa using h0)]
 rw [e] at HP
 rw [h0] at HR
 have HF : Hid (NumCells w af gf of fs) := hf
 have HRUN : Hid (∀ (w : World), NumCells w af gf of fs → Calls Tryz.prog 9 #[.string s, .slice af fs.length capf] w (RunPost w (runP s.data.toList fs))) := fun w h => refRun_any s fs af gf of capf w hs h (by omega) hfo
 have hfew := runP_few s.data.toList fs hfo
 have hrf : (runP s.data.toList fs).1 = 0 → fs.length = countF (parseH s.data.toList).2 := by
  intro hr
  unfold runP at hr
  rw [if_neg (by simpa using h0)] at hr
  by_cases hc : fs.length = countF (parseH s.data.toList).2
  ·exact hc
  ·rw [if_pos hc] at hr
   cases hr
 have hex : (runP s.data.toList fs).1 = 0 → execI (genP s.data.toList) fs = (0, (runP s.data.toList fs).2) := fun hr => hgf.runs fs (hrf hr)
 have hval := hgf.valid
 have HV : Hid (∀ (ao : Option Addr) (g cap : Nat) (w : World), InsCells w ao g 0 (genP s.data.toList) → Calls Tryz.prog 14 #[.slice ao (genP s.data.toList).length cap] w fun e w' => e = .returned (.tuple #[.int .i64 0, .int .i64 0]) ∧ Below w.heap.size w w') := fun ao g cap w h => by
  have := refValid_any (genP s.data.toList) ao g 0 cap w h
  rw [hval] at this
  exact this
 have HX : Hid (∀ (ao : Option Addr) (g cap : Nat) (w : World), InsCells w ao g 0 (genP s.data.toList) → NumCells w af gf of fs → Calls Tryz.prog 15 #[.slice ao (genP s.data.toList).length cap, .slice af fs.length capf] w (ExecPost w (execI (genP s.data.toList) fs))) := fun ao g cap w h1 h2 => refExec_any (genP s.data.toList) fs ao af g 0 cap gf of capf w h1 h2 (by omega) hgf.bound hfo
 clear hf hfo e hgf hval h0
 generalize genP s.data.toList = C at *
 generalize (checkP s.data.toList).2 = y2 at *
 generalize runP s.data.toList fs = R at *
 obtain ⟨er, N⟩ := R
 simp only at hfew hex
 by_cases her : er = 0
 ·subst her
  rw [hex rfl] at HX
  clear hex hrf
  go_enter Tryz.func6, Tryz.ntmps6
  go_wp2_with (first | (go_at_call 12; refine (HP.out _).mono ?_; rintro e w1 ⟨⟨va, rfl, ha1, ha2⟩, hb1⟩; have HOA : Hid (w1.ownsRow w.heap.size 64 4 va C.length (icRow C)) := ha2; obtain ⟨aa, ga, ca, rfl, hna⟩ := ins_form ha2; have HNA : Hid (InsCells w1 aa ga 0 C) := hna; have HB1 : Hid (Below w.heap.size w w1) := hb1; clear hb1 ha1 ha2 hna) | (go_at_call 13; refine (HR.out _).mono ?_; rintro e w2 ⟨rfl, hb2⟩; have HB2 : Hid (Below w1.heap.size w1 w2) := hb2; clear hb2) | (go_at_call 14; refine (HV.out _ ga _ _ (HNA.out.below HB2.out)).mono ?_; rintro e w3 ⟨rfl, hb3⟩; have HB3 : Hid (Below w2.heap.size w2 w3) := hb3; clear hb3) | (go_at_call 9; refine (HRUN.out _ (((HF.out.below HB1.out).below HB2.out).below HB3.out)).mono ?_; rintro e w4 ⟨⟨vb, rfl, hc1, hc2⟩, hb4⟩; obtain ⟨ab, gb, cb, rfl, hnb⟩ := notes_form hc2; have HNB : Hid (NoteCells w4 ab gb N) := hnb; have HB4 : Hid (Below w3.heap.size w3 w4) := hb4; clear hb4 hc1 hc2 hnb) | (go_at_call 15; refine (HX.out _ ga _ _ (((HNA.out.below HB2.out).below HB3.out).below HB4.out) ((((HF.out.below HB1.out).below HB2.out).below HB3.out).below HB4.out)).mono ?_; rintro e w5 ⟨⟨vx, rfl, hd1, hd2⟩, hb5⟩; obtain ⟨ax, gx, cx, rfl, hnx⟩ := notes_form hd2; have HNX : Hid (NoteCells w5 ax gx N) := hnx; have HB5 : Hid (Below w4.heap.size w4 w5) := hb5; clear hb5 hd1 hd2 hnx) | (go_at_call 11; refine (sameNotes_any N _ _ gx _ gb _ _ HNX.out (HNB.out.below HB5.out) (by omega)).mono ?_; rintro e w6 ⟨rfl, hb6⟩; have HB6 : Hid (Below w5.heap.size w5 w6) := hb6; clear hb6))
  go_ret2
  have s1 := HB1.out.size
  have s2 := HB2.out.size
  have s3 := HB3.out.size
  have s4 := HB4.out.size
  have s5 := HB5.out.size
  refine ⟨⟨_, C, rfl, ?_⟩, ((((HB1.out.trans (HB2.out.mono (by omega))).trans (HB3.out.mono (by omega))).trans (HB4.out.mono (by omega))).trans (HB5.out.mono (by omega))).trans (HB6.out.mono (by omega))⟩
  exact own_low (own_low (own_low (own_low (own_low HOA.out HB2.out (Nat.le_refl _)) HB3.out (Nat.le_refl _)) HB4.out (Nat.le_refl _)) HB5.out (Nat.le_refl _)) HB6.out (Nat.le_refl _)
 ·have t0 : (er != 0) = true := by simpa using her
  clear hex hrf HX
  go_enter Tryz.func6, Tryz.ntmps6
  go_wp2_with (first | (go_at_call 12; refine (HP.out _).mono ?_; rintro e w1 ⟨⟨va, rfl, ha1, ha2⟩, hb1⟩; have HOA : Hid (w1.ownsRow w.heap.size 64 4 va C.length (icRow C)) := ha2; obtain ⟨aa, ga, ca, rfl, hna⟩ := ins_form ha2; have HNA : Hid (InsCells w1 aa ga 0 C) := hna; have HB1 : Hid (Below w.heap.size w w1) := hb1; clear hb1 ha1 ha2 hna) | (go_at_call 13; refine (HR.out _).mono ?_; rintro e w2 ⟨rfl, hb2⟩; have HB2 : Hid (Below w1.heap.size w1 w2) := hb2; clear hb2) | (go_at_call 14; refine (HV.out _ ga _ _ (HNA.out.below HB2.out)).mono ?_; rintro e w3 ⟨rfl, hb3⟩; have HB3 : Hid (Below w2.heap.size w2 w3) := hb3; clear hb3) | (go_at_call 9; refine (HRUN.out _ (((HF.out.below HB1.out).below HB2.out).below HB3.out)).mono ?_; rintro e w4 ⟨⟨vb, rfl, hc1, hc2⟩, hb4⟩; obtain rfl := hc1 her; have HB4 : Hid (Below w3.heap.size w3 w4) := hb4; clear hb4 hc1 hc2))
  go_ret2
  have s1 := HB1.out.size
  have s2 := HB2.out.size
  have s3 := HB3.out.size
  refine ⟨⟨_, C, rfl, ?_⟩, ((HB1.out.trans (HB2.out.mono (by omega))).trans (HB3.out.mono (by omega))).trans (HB4.out.mono (by omega))⟩
  exact own_low (own_low (own_low HOA.out HB2.out (Nat.le_refl _)) HB3.out (Nat.le_refl _)) HB4.out (Nat.le_refl _)
theorem compiled_walk (s : ByteArray) (fs : List Int) (af : Option Addr) (gf of capf : Nat) (w : World) (hs : s.size ≤ maxLen) (hf : NumCells w af gf of fs) (hm : 8 * (fs.length + 2) ≤ 281474976710656) (hfo : FsOk fs) :
  Calls Tryz.prog 6 #[.string s, .slice af fs.length capf] w (LawComp w) := by
 by_cases h0 : (checkP s.data.toList).1 = 0
 ·exact compiled_ok s fs af gf of capf w hs hf hm hfo h0
 ·exact compiled_err s _ w hs h0
set_option maxRecDepth 100000 in
set_option maxHeartbeats 1000000 in
theorem compiles_walk (s : ByteArray) (fs : List Int) (af : Option Addr) (gf of capf : Nat) (w : World) (hs : s.size ≤ maxLen) (hf : NumCells w af gf of fs) (hm : 8 * (fs.length + 2) ≤ 281474976710656) (hfo : FsOk fs) :
  Calls Tryz.prog 4 #[.string s, .slice af fs.length capf] w fun e w' => e = .returned (.bool true) ∧ Below w.heap.size w w' := by
 have HE : Hid (Calls Tryz.prog 6 #[.string s, .slice af fs.length capf] w (LawComp w)) := compiled_walk s fs af gf of capf w hs hf hm hfo
 clear hf hfo
 go_enter Tryz.func4, Tryz.ntmps4
 go_wp2_with (go_at_call 6; refine HE.out.mono ?_; rintro e w1 ⟨⟨v, N, rfl, hv⟩, hb1⟩; clear hv)
 go_ret
 exact ⟨rfl, hb1⟩
end Go.Proofs.YtdgmoiflahoihaaGreat
