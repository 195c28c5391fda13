import Derived.Test.YtdgmoiflahoihabGreatKSw
import Derived.Test.YtdgmoiflahoihabGreatGTw
import Derived.Test.YtdgmoiflahoihabGreatXTopw
import Derived.Test.YtdgmoiflahoihabGreatVAw

namespace Go.Proofs.YtdgmoiflahoihabGreat
open Go.RowKit
set_option linter.unusedSimpArgs false
set_option linter.unusedVariables false
def inN (t : List UInt8) (zs : List Int) : List Int := fillN zs (countF (parseH t).2)
theorem hds_count {t : List UInt8} (h : (checkP t).1 = 0) : (hdsL 63 t).length = countF (parseH t).2 := by
 obtain ⟨_, h2, _⟩ := checkP_ok h
 rw [(hds_eq h2).1, List.length_map]
 rfl
theorem run_ok {t : List UInt8} (h : (checkP t).1 = 0) (zs : List Int) : (runP t (inN t zs)).1 = 0 := by
 unfold runP inN
 rw [if_neg (by simpa using h), if_neg (by rw [fillN_len]; simp)]
set_option maxRecDepth 100000 in
set_option maxHeartbeats 4000000 in
theorem through_any (s : ByteArray) (zs : List Int) (af : Option Addr) (gf of capf : Nat) (w : World) (hs : s.size ≤ 2000000) (h0 : (checkP s.data.toList).1 = 0) (hf : NumCells w af gf of zs) (hz : zs.length ≤ 9223372036854775807) (hfo : FsOk zs) :
  Calls Tryz.prog 6 #[.string s, .slice af zs.length capf] w fun e w' => (∃ v, e = .returned (.tuple #[v, .bool true]) ∧ w'.ownsRow w.heap.size 32 5 v (runP s.data.toList (inN s.data.toList zs)).2.length (ntCells (runP s.data.toList (inN s.data.toList zs)).2)) ∧ Below w.heap.size w w' := by
 have hsm : s.size ≤ maxLen := by unfold maxLen; omega
 have hgf := gen_facts h0
 have hcn := hds_count h0
 have hr0 := run_ok h0 zs
 have hil : (inN s.data.toList zs).length = countF (parseH s.data.toList).2 := fillN_len _ _
 have hex : execI (genP s.data.toList) (inN s.data.toList zs) = (0, (runP s.data.toList (inN s.data.toList zs)).2) := hgf.runs _ hil
 have hio : FsOk (inN s.data.toList zs) := fillN_ok hfo _
 have hfew := runP_few s.data.toList (inN s.data.toList zs) hio
 have hc26 := hgf.few
 have HU : Hid (∀ w, Calls Tryz.prog 5 #[.string s] w fun e w' => e = .returned (.tuple #[.int .i64 (countF (parseH s.data.toList).2 : Nat), .bool true]) ∧ Below w.heap.size w w') := fun w => by
  have := usable_any s w hs
  rw [hcn, h0] at this
  exact this
 have HI : Hid (∀ (w : World), NumCells w af gf of zs → Calls Tryz.prog 10 #[.slice af zs.length capf, .int .i64 (countF (parseH s.data.toList).2 : Nat)] w fun e w' => e = .returned (.slice (some ⟨w.heap.size, 0, none⟩) (countF (parseH s.data.toList).2) (countF (parseH s.data.toList).2)) ∧ w'.heap[w.heap.size]? = some (.cells (numRow (inN s.data.toList zs)).toArray 3 (0, 0)) ∧ Below w.heap.size w w') := fun w h => kfilled_any zs af gf of capf _ w h (by omega) hz
 have HCm : Hid (∀ w, Calls Tryz.prog 11 #[.string s] w (CompPost w (0, genP s.data.toList))) := fun w => by
  have := tariffCompile_any s w hsm
  unfold compP at this
  rw [if_neg (by simpa using h0)] at this
  exact this
 have hval := hgf.valid
 have HV : Hid (∀ (ao : Option Addr) (g cap : Nat) (w : World), InsCells w ao g 0 (genP s.data.toList) → Calls Tryz.prog 12 #[.slice ao (genP s.data.toList).length cap] w fun e w' => e = .returned (.tuple #[.int .i64 0, .int .i64 0]) ∧ Below w.heap.size w w') := fun ao g cap w h => by
  have := tariffValid_any (genP s.data.toList) ao g 0 cap w h
  rw [hval] at this
  exact this
 have HX : Hid (∀ (ao : Option Addr) (g cap gi ci : Nat) (w : World), InsCells w ao g 0 (genP s.data.toList) → NumCells w (some ⟨gi, 0, none⟩) gi 0 (inN s.data.toList zs) → Calls Tryz.prog 13 #[.slice ao (genP s.data.toList).length cap, .slice (some ⟨gi, 0, none⟩) (inN s.data.toList zs).length ci] w (ExecPost w (execI (genP s.data.toList) (inN s.data.toList zs)))) := fun ao g cap gi ci w h1 h2 => tariffExec_any (genP s.data.toList) (inN s.data.toList zs) ao _ g 0 cap gi 0 ci w h1 h2 (by rw [hil]; omega) hgf.bound hio
 have HRn : Hid (∀ (gi ci : Nat) (w : World), NumCells w (some ⟨gi, 0, none⟩) gi 0 (inN s.data.toList zs) → Calls Tryz.prog 14 #[.string s, .slice (some ⟨gi, 0, none⟩) (inN s.data.toList zs).length ci] w (RunPost w (runP s.data.toList (inN s.data.toList zs)))) := fun gi ci w h => progRun_any s (inN s.data.toList zs) gi ci w hsm h (by rw [hil]; unfold maxLen; omega) hio
 rw [hex] at HX
 rw [hil] at HX HRn
 have HF : Hid (NumCells w af gf of zs) := hf
 clear hgf hex hio hcn hval h0 hf hfo hsm hil
 generalize inN s.data.toList zs = IN at *
 generalize genP s.data.toList = C at *
 generalize countF (parseH s.data.toList).2 = n at *
 generalize runP s.data.toList IN = R at *
 obtain ⟨er, N⟩ := R
 simp only at hr0 hfew HX HRn ⊢
 subst hr0
 go_enter Tryz.func6, Tryz.ntmps6
 go_wp2_with (first | (go_at_call 5; refine (HU.out _).mono ?_; rintro e w1 ⟨rfl, hb1⟩; have HB1 : Hid (Below w.heap.size w w1) := hb1; clear hb1) | (go_at_call 10; refine (HI.out _ (HF.out.below HB1.out)).mono ?_; rintro e w2 ⟨rfl, hg2, hb2⟩; have HN2 : Hid (NumCells w2 (some ⟨w1.heap.size, 0, none⟩) w1.heap.size 0 IN) := num_row hg2; have HB2 : Hid (Below w1.heap.size w1 w2) := hb2; clear hb2 hg2) | (go_at_call 11; refine (HCm.out _).mono ?_; rintro e w3 ⟨⟨va, rfl, ha1, ha2⟩, hb3⟩; obtain ⟨aa, ga, ca, rfl, hna⟩ := ins_form ha2; have HNA : Hid (InsCells w3 aa ga 0 C) := hna; have HB3 : Hid (Below w2.heap.size w2 w3) := hb3; clear hb3 ha1 ha2 hna) | (go_at_call 12; refine (HV.out _ ga _ _ HNA.out).mono ?_; rintro e w4 ⟨rfl, hb4⟩; have HB4 : Hid (Below w3.heap.size w3 w4) := hb4; clear hb4) | (go_at_call 13; refine (HX.out _ ga _ w1.heap.size _ _ (HNA.out.below HB4.out) ((HN2.out.below HB3.out).below HB4.out)).mono ?_; rintro e w5 ⟨⟨vx, rfl, hd1, hd2⟩, hb5⟩; have HOX : Hid (w5.ownsRow w4.heap.size 32 5 vx N.length (ntCells N)) := hd2; obtain ⟨ax, gx, cx, rfl, hnx⟩ := notes_form hd2; have HNX : Hid (NoteCells w5 ax gx N) := hnx; have HB5 : Hid (Below w4.heap.size w4 w5) := hb5; clear hb5 hd1 hd2 hnx) | (go_at_call 14; refine (HRn.out w1.heap.size _ _ (((HN2.out.below HB3.out).below HB4.out).below HB5.out)).mono ?_; rintro e w6 ⟨⟨vb, rfl, hc1, hc2⟩, hb6⟩; obtain ⟨ab, gb, cb, rfl, hnb⟩ := notes_form hc2; have HNB : Hid (NoteCells w6 ab gb N) := hnb; have HB6 : Hid (Below w5.heap.size w5 w6) := hb6; clear hb6 hc1 hc2 hnb) | (go_at_call 15; refine (ksameNotes_any N _ _ gx _ gb _ _ (HNX.out.below HB6.out) HNB.out (by omega)).mono ?_; rintro e w7 ⟨rfl, hb7⟩; have HB7 : Hid (Below w6.heap.size w6 w7) := hb7; clear hb7))
 go_ret2
 have s1 := HB1.out.size
 have s2 := HB2.out.size
 have s3 := HB3.out.size
 have s4 := HB4.out.size
 have s5 := HB5.out.size
 have s6 := HB6.out.size
 refine ⟨⟨_, rfl, ?_⟩, (((((HB1.out.trans (HB2.out.mono (by omega))).trans (HB3.out.mono (by omega))).trans (HB4.out.mono (by omega))).trans (HB5.out.mono (by omega))).trans (HB6.out.mono (by omega))).trans (HB7.out.mono (by omega))⟩
 exact ownsRow_base (own_low (own_low HOX.out HB6.out (Nat.le_refl _)) HB7.out (Nat.le_refl _)) (by omega)
set_option maxRecDepth 100000 in
set_option maxHeartbeats 4000000 in
theorem through_law (s : ByteArray) (c : Int) (zs : List Int) (af : Option Addr) (gf of capf : Nat) (w : World) (hs : s.size ≤ 2000000) (hc : -9223372036854775808 ≤ c ∧ c ≤ 9223372036854775807) (hf : NumCells w af gf of zs) (hz : zs.length ≤ 9223372036854775807) (hfo : FsOk zs) :
  Calls Tryz.prog 3 #[.string s, .int .i64 c, .slice af zs.length capf] w fun e w' => e = .returned (.bool true) ∧ Below w.heap.size w w' := by
 have hk := pickN_lt c (n := 8) (by decide)
 have HSA : Hid (∀ w, Calls Tryz.prog 4 #[.int .i64 c] w fun e w' => e = .returned (.string (smplS (pickN c 8))) ∧ Below w.heap.size w w') := fun w => sample_any c hc w
 obtain ⟨hs0, hs4, hs400, hsn⟩ := smpl_notes (smpl_good hk)
 have hsd : (smplS (pickN c 8)).data.toList = smpl (pickN c 8) := by simp [smplS]
 have hss : (smplS (pickN c 8)).size = (smpl (pickN c 8)).length := by simp [smplS, ByteArray.size]
 rw [← hsd] at hs0 hsn
 rw [← hss] at hs4 hs400
 rw [hsd, ← hss, ← hsd] at hsn
 generalize smplS (pickN c 8) = p at *
 clear hsd hss hk
 have hcn := hds_count hs0
 obtain ⟨N, hN⟩ := hsn (inN p.data.toList zs) (fillN_len _ _)
 have hNf : N.length + 1 ≤ 5000 := by
  have := runP_few p.data.toList (inN p.data.toList zs) (fillN_ok hfo _)
  rw [hN] at this
  simpa using this
 have HU1 : Hid (∀ w, Calls Tryz.prog 5 #[.string p] w fun e w' => e = .returned (.tuple #[.int .i64 ((hdsL 63 p.data.toList).length : Nat), .bool true]) ∧ Below w.heap.size w w') := fun w => by
  have := usable_any p w (by omega)
  rw [hs0] at this
  exact this
 have HT1 : Hid (∀ w, NumCells w af gf of zs → Calls Tryz.prog 6 #[.string p, .slice af zs.length capf] w fun e w' => (∃ v, e = .returned (.tuple #[v, .bool true]) ∧ w'.ownsRow w.heap.size 32 5 v (N ++ [(⟨0, p.size - 4, 0, ⟨7, 0⟩⟩ : Nt)]).length (ntCells (N ++ [(⟨0, p.size - 4, 0, ⟨7, 0⟩⟩ : Nt)]))) ∧ Below w.heap.size w w') := fun w h => by
  have := through_any p zs af gf of capf w (by omega) hs0 h hz hfo
  rw [hN] at this
  exact this
 have HU2 : Hid (∀ w, Calls Tryz.prog 5 #[.string s] w fun e w' => e = .returned (.tuple #[.int .i64 ((hdsL 63 s.data.toList).length : Nat), .bool ((checkP s.data.toList).1 == 0)]) ∧ Below w.heap.size w w') := fun w => usable_any s w hs
 have HT2 : Hid ((checkP s.data.toList).1 = 0 → ∀ w, NumCells w af gf of zs → Calls Tryz.prog 6 #[.string s, .slice af zs.length capf] w fun e w' => (∃ v, e = .returned (.tuple #[v, .bool true])) ∧ Below w.heap.size w w') := fun h w hn => (through_any s zs af gf of capf w hs h hn hz hfo).mono (by rintro e w' ⟨⟨v, he, _⟩, hb⟩; exact ⟨⟨v, he⟩, hb⟩)
 have HF : Hid (NumCells w af gf of zs) := hf
 generalize hdsL 63 p.data.toList = L1 at *
 generalize hdsL 63 s.data.toList = L2 at *
 generalize hM : N ++ [(⟨0, p.size - 4, 0, ⟨7, 0⟩⟩ : Nt)] = M at *
 have hMl : M.length = N.length + 1 := by rw [← hM]; simp
 have hMlast : ∀ h : N.length < M.length, M[N.length] = ⟨0, p.size - 4, 0, ⟨7, 0⟩⟩ := fun h => by simp [← hM]
 have e4 : ((p.size - 4 : Nat) : Int) = (p.size : Int) - 4 := by omega
 clear hf hfo hN hsn hcn hs0 hM
 obtain ⟨K, hK⟩ : ∃ K, K = N.length := ⟨_, rfl⟩
 rw [← hK] at hMl hMlast hNf
 have hlast := hMlast (by omega)
 generalize hy : checkP s.data.toList = y at *
 clear hMlast hK hy
 by_cases hy0 : y.1 = 0
 ·have t0 : (y.1 == 0) = true := by simp [hy0]
  have HT2' : Hid (∀ w, NumCells w af gf of zs → Calls Tryz.prog 6 #[.string s, .slice af zs.length capf] w fun e w' => (∃ v, e = .returned (.tuple #[v, .bool true])) ∧ Below w.heap.size w w') := HT2.out hy0
  rw [t0] at HU2
  clear HT2 t0 hy0
  go_enter Tryz.func3, Tryz.ntmps3
  go_upto_region 6 with (first | (go_at_call 4; refine (HSA.out _).mono ?_; rintro e w1 ⟨rfl, hb1⟩; have HB1 : Hid (Below w.heap.size w w1) := hb1; clear hb1) | (go_at_call 5; refine (HU1.out _).mono ?_; rintro e w2 ⟨rfl, hb2⟩; have HB2 : Hid (Below w1.heap.size w1 w2) := hb2; clear hb2) | (go_at_call 6; refine (HT1.out _ ((HF.out.below HB1.out).below HB2.out)).mono ?_; rintro e w3 ⟨⟨v, rfl, ho⟩, hb3⟩; obtain ⟨ao, g, cap, rfl, hn⟩ := notes_form ho; have HN3 : Hid (NoteCells w3 ao g M) := hn; have HB3 : Hid (Below w2.heap.size w2 w3) := hb3; clear hb3 ho hn))
  obtain ⟨rfl, hg, c0, c1, c2, c3, c4⟩ := HN3.out K (by omega)
  rw [hlast] at c0 c1 c2 c3 c4
  simp only [e4] at c0 c1 c2 c3 c4
  clear hlast HN3 hMl
  go_wp2_with (first | (go_at_call 5; refine (HU2.out _).mono ?_; rintro e w4 ⟨rfl, hb4⟩; have HB4 : Hid (Below w3.heap.size w3 w4) := hb4; clear hb4) | (go_at_call 6; refine (HT2'.out _ ((((HF.out.below HB1.out).below HB2.out).below HB3.out).below HB4.out)).mono ?_; rintro e w5 ⟨⟨v5, rfl⟩, hb5⟩; have HB5 : Hid (Below w4.heap.size w4 w5) := hb5; clear hb5))
  go_ret
  have s1 := HB1.out.size
  have s2 := HB2.out.size
  have s3 := HB3.out.size
  have s4 := HB4.out.size
  exact ⟨rfl, (((HB1.out.trans (HB2.out.mono (by omega))).trans (HB3.out.mono (by omega))).trans (HB4.out.mono (by omega))).trans (HB5.out.mono (by omega))⟩
 ·have t0 : (y.1 == 0) = false := by simpa using hy0
  rw [t0] at HU2
  clear HT2 t0 hy0
  go_enter Tryz.func3, Tryz.ntmps3
  go_upto_region 6 with (first | (go_at_call 4; refine (HSA.out _).mono ?_; rintro e w1 ⟨rfl, hb1⟩; have HB1 : Hid (Below w.heap.size w w1) := hb1; clear hb1) | (go_at_call 5; refine (HU1.out _).mono ?_; rintro e w2 ⟨rfl, hb2⟩; have HB2 : Hid (Below w1.heap.size w1 w2) := hb2; clear hb2) | (go_at_call 6; refine (HT1.out _ ((HF.out.below HB1.out).below HB2.out)).mono ?_; rintro e w3 ⟨⟨v, rfl, ho⟩, hb3⟩; obtain ⟨ao, g, cap, rfl, hn⟩ := notes_form ho; have HN3 : Hid (NoteCells w3 ao g M) := hn; have HB3 : Hid (Below w2.heap.size w2 w3) := hb3; clear hb3 ho hn))
  obtain ⟨rfl, hg, c0, c1, c2, c3, c4⟩ := HN3.out K (by omega)
  rw [hlast] at c0 c1 c2 c3 c4
  simp only [e4] at c0 c1 c2 c3 c4
  clear hlast HN3 hMl
  go_wp2_with (first | (go_at_call 5; refine (HU2.out _).mono ?_; rintro e w4 ⟨rfl, hb4⟩; have HB4 : Hid (Below w3.heap.size w3 w4) := hb4; clear hb4))
  go_ret
  have s1 := HB1.out.size
  have s2 := HB2.out.size
  have s3 := HB3.out.size
  exact ⟨rfl, ((HB1.out.trans (HB2.out.mono (by omega))).trans (HB3.out.mono (by omega))).trans (HB4.out.mono (by omega))⟩
end Go.Proofs.YtdgmoiflahoihabGreat
