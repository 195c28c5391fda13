import Derived.Test.YtdgmoiflahoihabRTakex

namespace Go.Proofs.Ytdgmoiflahoihab
open Go.RowKit
set_option linter.unusedSimpArgs false
set_option linter.unusedVariables false
def vals0 : List Vl := List.replicate 26 vl0
def runP (t : List UInt8) (fs : List Int) : Int × List Nt :=
 if (checkP t).1 ≠ 0 then ((checkP t).1, [])
 else if fs.length ≠ countF (parseH t).2 then (6, [])
 else (0, (doF 9 (fillV (parseH t).2 fs vals0, []) (parseR t).2).2)
theorem checkP_ok {t : List UInt8} (h : (checkP t).1 = 0) : t.length ≤ 400 ∧ (parseR t).1.bad = false ∧ twiceL [] (parseH t).2 = none ∧ ¬ 5000 < workS 9 (parseR t).2 ∧ cleanF (labelsP (parseH t).2 (parseR t).2) 9 0 (parseR t).2 = none := by
 unfold checkP at h
 split at h
 ·exact absurd h (by simp)
 rename_i h1
 split at h
 ·exact absurd h (by simp)
 rename_i h2
 split at h
 ·exact absurd h (by simp)
 rename_i h3
 split at h
 ·exact absurd h (by simp)
 rename_i h4
 split at h
 ·exact absurd h (by simp)
 rename_i h5
 exact ⟨by omega, by simpa using h2, h3, h4, h5⟩
theorem text_full (s : ByteArray) (w : World) (hs : s.size ≤ maxLen) (hpo : s.size ≤ 400 → (parseR s.data.toList).1.bad = false → ParseOk s.data.toList) (h0 : (checkP s.data.toList).1 = 0) :
  Calls Try.prog 17 #[.string s] w fun e w' => ∃ vh vr, e = .returned (.agg (ok30 vh vr (labelsP (parseH s.data.toList).2 (parseR s.data.toList).2)).toArray) ∧ Below w.heap.size w w' ∧ HeadsV w' (fun k => w.heap.size ≤ k) vh (parseH s.data.toList).2 ∧ RulesV 9 w' (fun k => w.heap.size ≤ k) vr (parseR s.data.toList).2 := by
 obtain ⟨h1, h2, h3, h4, h5⟩ := checkP_ok h0
 have hsl : s.data.toList.length = s.size := by simp
 exact text_ok s w (by omega) (hpo (by omega) h2) h2 h3 h4 h5
set_option maxRecDepth 100000 in
set_option maxHeartbeats 2000000 in
theorem runText_err (s : ByteArray) (vf : Value) (w : World) (e : Int) (hs : s.size ≤ maxLen) (hpo : s.size ≤ 400 → (parseR s.data.toList).1.bad = false → ParseOk s.data.toList) (he : (checkP s.data.toList).1 = e) (hne : e ≠ 0) :
  Calls Try.prog 14 #[.string s, vf] w fun x w' => x = .returned (.tuple #[.slice none 0 0, .int .i64 e]) ∧ Below w.heap.size w w' := by
 have HPO : Hid _ := hpo
 have HE : Hid ((checkP s.data.toList).1 = e) := he
 clear hpo he
 have te : (e != 0) = true := by simpa using hne
 go_enter Try.func14, Try.ntmps14
 go_upto_region 2 with (first | (go_at_call 17; refine (text_any s _ hs HPO.out).mono ?_; rintro x1 w1 ⟨cs, rfl, htc, hb1⟩; have HTC : Hid (TextC s.data.toList cs) := htc; clear htc) | (refine wpList_store_row rfl 54 (.tmp 6) (.tmp 9) rfl w1.heap.size cs.toArray rfl rfl 54 (e30 0 0).toArray (by exact rules_new w1) (by rw [infoRules, HTC.out.size]) (by rw [HTC.out.size]; rfl) HTC.out.one ?_; rw [World.setRow_alloc_new]; simp only [Act.put]))
 have hs1 := hb1.size
 have hbW1 : Below w.heap.size w (w1.alloc (.cells cs.toArray 54)) := hb1.alloc (by omega) _
 have q0 : (w1.alloc (.cells cs.toArray 54)).cell? ⟨w1.heap.size, 0, none⟩ = some (.int .i64 (checkP s.data.toList).1) := by rw [cell_of_row _ _ _ _ _ _ (heap_alloc_new w1 _)]; simpa using HTC.out.cell0
 rw [HE.out] at q0
 generalize hgg : w1.heap.size = g1 at *
 generalize w1.alloc (.cells cs.toArray 54) = W1 at *
 have HBW : Hid (Below w.heap.size w W1) := hbW1
 clear hbW1 hb1 hgg
 go_wp2_with fail
 go_region
 all_goals go_wp2_with fail
 all_goals go_ret2
 all_goals exact ⟨rfl, HBW.out.drew⟩
theorem ownsRow_base {w : World} {base base' size n : Nat} {e : TypeId} {v : Value} {xs : List Value} (h : w.ownsRow base e size v n xs) (hb : base' ≤ base) : w.ownsRow base' e size v n xs := by
 refine ⟨h.1, ?_⟩
 rcases h.2 with h0 | ⟨g, cap, cur, h1, h2, h3⟩
 ·exact .inl h0
 ·exact .inr ⟨g, cap, cur, h1, by omega, h3⟩
def st53 : List Value := vlCells vals0 ++ [.slice none 0 0]
theorem st53_lit : #[.int .i64 0, .int .i64 0, .int .i64 0, .int .i64 0, .int .i64 0, .int .i64 0, .int .i64 0, .int .i64 0, .int .i64 0, .int .i64 0, .int .i64 0, .int .i64 0, .int .i64 0, .int .i64 0, .int .i64 0, .int .i64 0, .int .i64 0, .int .i64 0, .int .i64 0, .int .i64 0, .int .i64 0, .int .i64 0, .int .i64 0, .int .i64 0, .int .i64 0, .int .i64 0, .int .i64 0, .int .i64 0, .int .i64 0, .int .i64 0, .int .i64 0, .int .i64 0, .int .i64 0, .int .i64 0, .int .i64 0, .int .i64 0, .int .i64 0, .int .i64 0, .int .i64 0, .int .i64 0, .int .i64 0, .int .i64 0, .int .i64 0, .int .i64 0, .int .i64 0, .int .i64 0, .int .i64 0, .int .i64 0, .int .i64 0, .int .i64 0, .int .i64 0, .int .i64 0, .slice none 0 0] = st53.toArray := rfl
theorem state_new (w : World) (t : TypeId) : StateAt (w.alloc (.cells st53.toArray t)) w.heap.size (fun _ => False) (vals0, []) := by
 have hh := heap_alloc_new w (.cells st53.toArray t)
 refine ⟨fun k hk => ?_, ⟨.slice none 0 0, ?_, World.ownsRow_nil .., fun k hk => by cases hk⟩, fun o => by unfold World.frozen?; rw [hh]; simp⟩
 ·obtain ⟨d0, d1⟩ := vlCells_at vals0 k (by unfold vals0; simpa using hk)
  have e : vals0.getD k vl0 = vals0[k]'(by unfold vals0; simpa using hk) := by rw [List.getD_eq_getElem?_getD, List.getElem?_eq_getElem (by unfold vals0; simpa using hk)]; rfl
  have hl : (vlCells vals0).length = 52 := by rw [vlCells_len]; rfl
  simp only
  rw [e]
  constructor
  ·rw [cell_of_row _ _ _ _ _ _ hh]
   unfold st53
   rw [List.getElem?_toArray, List.getElem?_append_left (by omega)]
   exact d0
  ·rw [cell_of_row _ _ _ _ _ _ hh]
   unfold st53
   rw [List.getElem?_toArray, List.getElem?_append_left (by omega)]
   exact d1
 ·rw [cell_of_row _ _ _ _ _ _ hh]
  rfl
set_option maxRecDepth 100000 in
set_option maxHeartbeats 2000000 in
theorem runText_ok (s : ByteArray) (fs : List Int) (vf : Value) (w : World) (P : Nat → Prop) (hs : s.size ≤ maxLen) (hpo : s.size ≤ 400 → (parseR s.data.toList).1.bad = false → ParseOk s.data.toList) (hnm : (checkP s.data.toList).1 = 0 → NumsOk 9 (parseR s.data.toList).2) (h0 : (checkP s.data.toList).1 = 0) (hf : IntsAt w P vf fs) (hP : ∀ k, P k → k < w.heap.size) (hfl : fs.length ≤ maxLen) (hfr : ∀ x ∈ fs, -9223372036854775808 ≤ x ∧ x ≤ 9223372036854775807) :
  Calls Try.prog 14 #[.string s, vf] w fun x w' => (∃ vn, x = .returned (.tuple #[vn, .int .i64 (runP s.data.toList fs).1]) ∧ ((runP s.data.toList fs).1 ≠ 0 → vn = .slice none 0 0) ∧ w'.ownsRow w.heap.size 34 5 vn (runP s.data.toList fs).2.length (ntCells (runP s.data.toList fs).2)) ∧ Below w.heap.size w w' := by
 obtain ⟨h1, h2, h3, h4, h5⟩ := checkP_ok h0
 have hsl : s.data.toList.length = s.size := by simp
 have hpok := hpo (by omega) h2
 have hnums := hnm h0
 have HT : Hid _ := fun w => text_full s w hs hpo h0
 have hrun : runP s.data.toList fs = if fs.length ≠ countF (parseH s.data.toList).2 then (6, []) else (0, (doF 9 (fillV (parseH s.data.toList).2 fs vals0, []) (parseR s.data.toList).2).2) := by unfold runP; rw [if_neg (by simpa using h0)]
 generalize hRP : runP s.data.toList fs = RP at *
 generalize hHe : parseH s.data.toList = H at *
 generalize hRe : parseR s.data.toList = R at *
 unfold maxLen at hfl
 obtain ⟨hhd, hfew, htree, hwork⟩ := hpok
 rw [hHe] at hhd hfew
 rw [hRe] at htree hwork
 generalize hLb : labelsP H.2 R.2 = Lb at *
 have hLl : Lb.length = 26 := by rw [← hLb]; exact (labelsP_ok hhd htree).len
 have hcl : countF H.2 ≤ 1000 := Nat.le_trans (List.length_filter_le _ _) hfew
 obtain ⟨af, gf, capf, hvf, hff⟩ := hf.here
 have HF : Hid (IntsAt w P vf fs) := hf
 subst hvf
 have HHD : Hid _ := hhd
 have HTR : Hid (TreeOk 9 R.2) := htree
 have HNU : Hid (NumsOk 9 R.2) := hnums
 have HPW : Hid (∀ k, P k → k < w.heap.size) := hP
 have HFR : Hid _ := hfr
 have HRUN : Hid _ := hrun
 clear h0 h1 h2 h3 h5 hpo hnm hff hf hP hhd htree hnums hfr hrun hRP hHe hRe hLb hs
 go_enter Try.func14, Try.ntmps14
 go_upto_region 2 with (first | (go_at_call 17; refine (HT.out _).mono ?_; rintro x1 w1 ⟨vh, vr, rfl, hb1, hvh, hvr⟩; obtain ⟨ah, nh, ch, hvhe⟩ : ∃ aa nn cc, vh = .slice aa nn cc := (by rcases Joins.ownsRow_forms hvh.1 with ⟨rfl, _⟩ | ⟨g, cap, rfl⟩ <;> exact ⟨_, _, _, rfl⟩); obtain ⟨ar, nr, cr, hvre⟩ := rulesV_form hvr; subst hvhe; subst hvre) | (refine wpList_store_row rfl 54 (.tmp 6) (.tmp 9) rfl w1.heap.size (ok30 (.slice ah nh ch) (.slice ar nr cr) Lb).toArray rfl rfl 54 (e30 0 0).toArray (by exact rules_new w1) (by rw [infoRules, ok30_size _ _ _ hLl]) (by rw [ok30_size _ _ _ hLl]; rfl) (ok30_one _ _ _ _ _ _ _) ?_; rw [World.setRow_alloc_new]; simp only [Act.put]))
 have hs1 := hb1.size
 generalize hW : w1.alloc (.cells (ok30 (.slice ah nh ch) (.slice ar nr cr) Lb).toArray 54) = W1
 have hB1 : Below w1.heap.size w1 W1 := by rw [← hW]; exact (Below.refl _ _).alloc (Nat.le_refl _) _
 have hWs : W1.heap.size = w1.heap.size + 1 := by rw [← hW]; simp
 have q0 : W1.cell? ⟨w1.heap.size, 0, none⟩ = some (.int .i64 0) := by rw [← hW, cell_of_row _ _ _ _ _ _ (heap_alloc_new w1 _)]; rfl
 have q2 : W1.cell? ⟨w1.heap.size, 2, none⟩ = some (.slice ah nh ch) := by rw [← hW, cell_of_row _ _ _ _ _ _ (heap_alloc_new w1 _)]; rfl
 have q3 : W1.cell? ⟨w1.heap.size, 3, none⟩ = some (.slice ar nr cr) := by rw [← hW, cell_of_row _ _ _ _ _ _ (heap_alloc_new w1 _)]; rfl
 have HVH : Hid (HeadsV W1 (fun k => w.heap.size ≤ k) (.slice ah nh ch) H.2) := headsV_frame hvh (fun k hk hl => ⟨hk, hB1.block k hl⟩)
 have HVR : Hid (RulesV 9 W1 (fun k => w.heap.size ≤ k) (.slice ar nr cr) R.2) := rulesV_frame (fun k hk hl => ⟨hk, hB1.block k hl⟩) 9 _ _ hvr
 have HBW : Hid (Below w.heap.size w W1) := hb1.trans (hB1.mono (by omega))
 generalize hgg : w1.heap.size = g1 at *
 have hg1 : g1 < W1.heap.size := by omega
 clear hvh hvr hB1 hW hb1 hgg
 by_cases hne : fs.length = countF H.2
 ·have tn : ((fs.length : Int) != (countF H.2 : Int)) = false := by simp [hne]
  have hfl2 : fs.length ≤ 1000 := by omega
  have hR := HRUN.out
  rw [if_neg (by simpa using hne)] at hR
  generalize hfin : doF 9 (fillV H.2 fs vals0, []) R.2 = FIN at *
  have HFIN : Hid (doF 9 (fillV H.2 fs vals0, []) R.2 = FIN) := hfin
  have hR1 : RP.1 = 0 := by rw [hR]
  have hR2 : RP.2 = FIN.2 := by rw [hR]
  have HR1 : Hid (RP.1 = 0) := hR1
  have HR2 : Hid (RP.2 = FIN.2) := hR2
  clear hfin hR hR1 hR2 HRUN hne
  go_upto_region 7 with (first | (go_at_call 20; refine (countFields_any H.2 _ _ _ hfew HVH.out).mono ?_; rintro x2 w2 ⟨rfl, hb2⟩))
  rw [st53_lit]
  have hs2 := hb2.size
  have hS0 := state_new w2 61
  generalize hW3 : w2.alloc (.cells st53.toArray 61) = W3 at *
  have hB3 : Below w2.heap.size w2 W3 := by rw [← hW3]; exact (Below.refl _ _).alloc (Nat.le_refl _) _
  have hWs3 : W3.heap.size = w2.heap.size + 1 := by rw [← hW3]; simp
  have hB13 : Below W1.heap.size W1 W3 := hb2.trans (hB3.mono (by omega))
  have r2 : W3.cell? ⟨g1, 2, none⟩ = some (.slice ah nh ch) := (hB13.cell (p := ⟨g1, 2, none⟩) hg1).trans q2
  have r3 : W3.cell? ⟨g1, 3, none⟩ = some (.slice ar nr cr) := (hB13.cell (p := ⟨g1, 3, none⟩) hg1).trans q3
  have HB3 : Hid (Below w.heap.size w W3) := HBW.out.trans (hB13.mono HBW.out.size)
  have HVH3 : Hid (HeadsV W3 (fun k => k < w2.heap.size) (.slice ah nh ch) H.2) := headsV_frame HVH.out (fun k hk hl => ⟨by omega, hB13.block k hl⟩)
  have HVR3 : Hid (RulesV 9 W3 (fun k => k < w2.heap.size) (.slice ar nr cr) R.2) := rulesV_frame (fun k hk hl => ⟨by omega, hB13.block k hl⟩) 9 _ _ HVR.out
  have hww : w.heap.size ≤ W1.heap.size := HBW.out.size
  have HF3 : Hid (IntsAt W3 (fun k => k < w2.heap.size) (.slice af fs.length capf) fs) := HF.out.frame (fun k hk hl => ⟨by omega, HB3.out.block k hl⟩)
  generalize hbb : w2.heap.size = b at *
  have hbW : b < W3.heap.size := by omega
  have hgb : g1 < b := by omega
  have hwb : w.heap.size ≤ b := by omega
  have HS0 : Hid (StateAt W3 b (fun _ => False) (vals0, [])) := hS0
  clear hS0 hW3 hB3 hB13 hWs3 hb2 hbb q0 q2 q3 HVH HVR HF HBW hs2 hWs hs1
  have HOV : Hid (StOk (vals0, [])) := ⟨rfl, fun v hv => by have := List.eq_of_mem_replicate hv; rw [this]; exact vl0_ok⟩
  have HSB : Hid (∀ k, (False ∨ W3.heap.size ≤ k) → b < k) := fun k hk => by rcases hk with hk | hk; exact hk.elim; omega
  have HHN : Hid (∀ h ∈ H.2, 0 ≤ h.name ∧ h.name < 26) := fun h hh => ⟨(HHD.out h hh).1, (HHD.out h hh).2.1⟩
  have hfo := fillV_ok H.2 fs vals0 HFR.out HOV.out.len HOV.out.ok
  have HFO : Hid (StOk (fillV H.2 fs vals0, [])) := ⟨hfo.1, hfo.2⟩
  clear hfo
  have HWK : Hid (0 + workS 9 R.2 ≤ 100000) := by show _ ≤ _; omega
  go_upto_region 8 with (first | (go_at_call 21; refine (takeFields_any b (fun _ => False) (fun k => k < b) H.2 fs (vals0, []) _ _ _ hfew hfl2 HFR.out HHN.out HOV.out HS0.out HVH3.out HF3.out (fun k hk => hk) (fun k hk => hk.elim)).mono ?_; rintro x4 w4 ⟨rfl, hs4⟩))
  have hB4 : Below b W3 w4 := hs4.onto.below hbW (fun k hk => hk.elim)
  have r4 : w4.cell? ⟨g1, 3, none⟩ = some (.slice ar nr cr) := (hB4.cell (p := ⟨g1, 3, none⟩) hgb).trans r3
  have HVR4 : Hid (RulesV 9 w4 (fun k => k < b) (.slice ar nr cr) R.2) := rulesV_lower HVR3.out (fun k hk => hk) hB4
  have HS4 : Hid (StepAt b (fun _ => False) W3 w4 (fillV H.2 fs vals0, [])) := hs4
  clear hB4 hs4 r2 r3 HVR3 HVH3 HF3 HS0
  go_wp2_with (first | (go_at_call 22; refine (doAll_any 9 b _ (fillV H.2 fs vals0, []) R.2 (fun k => k < b) _ _ HTR.out HNU.out HFO.out HWK.out HS4.out.state HVR4.out (fun k hk => hk) HSB.out).mono ?_; rw [HFIN.out]; rintro x5 w5 ⟨rfl, hs5⟩; obtain ⟨vn, hvn, hon, _⟩ := hs5.state.row; have HS5 : Hid (StepAt b (fun _ => False) W3 w5 FIN) := HS4.out.trans hs5; clear hs5))
  go_ret2
  refine ⟨⟨vn, ?_, fun hx => absurd HR1.out hx, ?_⟩, HB3.out.trans ((HS5.out.onto.below hbW (fun k hk => hk.elim)).mono hwb)⟩
  ·rw [HR1.out]; rfl
  ·rw [HR2.out]
   exact ownsRow_base (show w5.ownsRow (b + 1) 34 5 vn FIN.2.length (ntCells FIN.2) from hon) (by omega)
 ·have tn : ((fs.length : Int) != (countF H.2 : Int)) = true := by simp; omega
  have hR := HRUN.out
  rw [if_pos (by simpa using hne)] at hR
  have HR : Hid (RP = (6, [])) := hR
  clear hR HRUN
  go_wp2_with (first | (go_at_call 20; refine (countFields_any H.2 _ _ _ hfew HVH.out).mono ?_; rintro x2 w2 ⟨rfl, hb2⟩))
  go_ret2
  rw [HR.out]
  exact ⟨⟨_, rfl, fun _ => rfl, World.ownsRow_nil ..⟩, HBW.out.trans (hb2.mono HBW.out.size)⟩
def RunPost (w : World) (r : Int × List Nt) (x : Ending) (w' : World) : Prop :=
 (∃ vn, x = .returned (.tuple #[vn, .int .i64 r.1]) ∧ (r.1 ≠ 0 → vn = .slice none 0 0) ∧ w'.ownsRow w.heap.size 34 5 vn r.2.length (ntCells r.2)) ∧ Below w.heap.size w w'
theorem runText_any (s : ByteArray) (fs : List Int) (vf : Value) (w : World) (P : Nat → Prop) (hs : s.size ≤ maxLen) (hpo : s.size ≤ 400 → (parseR s.data.toList).1.bad = false → ParseOk s.data.toList) (hnm : (checkP s.data.toList).1 = 0 → NumsOk 9 (parseR s.data.toList).2) (hf : IntsAt w P vf fs) (hP : ∀ k, P k → k < w.heap.size) (hfl : fs.length ≤ maxLen) (hfr : ∀ x ∈ fs, -9223372036854775808 ≤ x ∧ x ≤ 9223372036854775807) :
  Calls Try.prog 14 #[.string s, vf] w (RunPost w (runP s.data.toList fs)) := by
 by_cases h0 : (checkP s.data.toList).1 = 0
 ·exact runText_ok s fs vf w P hs hpo hnm h0 hf hP hfl hfr
 ·refine (runText_err s vf w _ hs hpo rfl h0).mono ?_
  rintro e w' ⟨rfl, hb⟩
  have : runP s.data.toList fs = ((checkP s.data.toList).1, []) := by unfold runP; rw [if_pos h0]
  rw [this]
  exact ⟨⟨_, rfl, fun _ => rfl, World.ownsRow_nil ..⟩, hb⟩
end Go.Proofs.Ytdgmoiflahoihab
