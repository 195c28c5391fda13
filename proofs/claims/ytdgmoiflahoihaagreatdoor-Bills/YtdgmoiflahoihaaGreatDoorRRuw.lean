import Derived.Test.YtdgmoiflahoihaaGreatDoorRExw

namespace Go.Proofs.YtdgmoiflahoihaaGreatDoor
open Go.RowKit
set_option linter.unusedSimpArgs false
set_option linter.unusedVariables false
theorem loc_end {W w : World} {b : Nat} {s : ByteArray} {r : Rd} {v0 v1 v2 v3 v4 v5 v6 v7 : Value} (L : Loc W w b s r v0 v1 v2 v3 v4 v5 v6 v7) (u0 u1 u2 u3 u4 u5 u6 u7 : Value) :
  ReaderAt (((((((((W).setCell ⟨w.heap.size, 0, none⟩ u0).setCell ⟨w.heap.size, 1, none⟩ u1).setCell ⟨w.heap.size, 2, none⟩ u2).setCell ⟨w.heap.size, 3, none⟩ u3).setCell ⟨w.heap.size, 4, none⟩ u4).setCell ⟨w.heap.size, 5, none⟩ u5).setCell ⟨w.heap.size, 6, none⟩ u6).setCell ⟨w.heap.size, 7, none⟩ u7) b s r nilS ∧ But b w (((((((((W).setCell ⟨w.heap.size, 0, none⟩ u0).setCell ⟨w.heap.size, 1, none⟩ u1).setCell ⟨w.heap.size, 2, none⟩ u2).setCell ⟨w.heap.size, 3, none⟩ u3).setCell ⟨w.heap.size, 4, none⟩ u4).setCell ⟨w.heap.size, 5, none⟩ u5).setCell ⟨w.heap.size, 6, none⟩ u6).setCell ⟨w.heap.size, 7, none⟩ u7) ∧
  (∀ v l, PartsV W (Past w) v l → PartsV (((((((((W).setCell ⟨w.heap.size, 0, none⟩ u0).setCell ⟨w.heap.size, 1, none⟩ u1).setCell ⟨w.heap.size, 2, none⟩ u2).setCell ⟨w.heap.size, 3, none⟩ u3).setCell ⟨w.heap.size, 4, none⟩ u4).setCell ⟨w.heap.size, 5, none⟩ u5).setCell ⟨w.heap.size, 6, none⟩ u6).setCell ⟨w.heap.size, 7, none⟩ u7) (fun k => w.heap.size ≤ k) v l) ∧
  (∀ n v l, RulesV n W (Past w) v l → RulesV n (((((((((W).setCell ⟨w.heap.size, 0, none⟩ u0).setCell ⟨w.heap.size, 1, none⟩ u1).setCell ⟨w.heap.size, 2, none⟩ u2).setCell ⟨w.heap.size, 3, none⟩ u3).setCell ⟨w.heap.size, 4, none⟩ u4).setCell ⟨w.heap.size, 5, none⟩ u5).setCell ⟨w.heap.size, 6, none⟩ u6).setCell ⟨w.heap.size, 7, none⟩ u7) (fun k => w.heap.size ≤ k) v l) := by
 have hl := L.lt
 have hk : ∀ k, Past w k → k < W.heap.size → w.heap.size ≤ k ∧ (((((((((W).setCell ⟨w.heap.size, 0, none⟩ u0).setCell ⟨w.heap.size, 1, none⟩ u1).setCell ⟨w.heap.size, 2, none⟩ u2).setCell ⟨w.heap.size, 3, none⟩ u3).setCell ⟨w.heap.size, 4, none⟩ u4).setCell ⟨w.heap.size, 5, none⟩ u5).setCell ⟨w.heap.size, 6, none⟩ u6).setCell ⟨w.heap.size, 7, none⟩ u7).heap[k]? = W.heap[k]? := by
  intro k hk _
  unfold Past at hk
  refine ⟨by omega, ?_⟩
  repeat rw [Below.heap_setCell _ _ _ _ (by simp only; omega)]
 refine ⟨?_, ?_, fun v l h => partsV_frame h hk, fun n v l h => rulesV_frame hk n v l h⟩
 ·repeat (refine readerAt_set ?_ _ _ (by simp only; omega))
  exact L.rd
 ·repeat (refine But.setNew ?_ _ _ (by simp))
  exact L.but
def BlkCalls (s : ByteArray) (n : Nat) : Prop := ∀ (b : Nat) (r : Rd) (w : World), ReaderAt w b s r nilS → FitB s.data.toList r → 8 ≤ r.depth + n →
 Calls Tryz.prog 184 #[.pointer (some ⟨b, 0, none⟩)] w fun e w' => ∃ v, e = .returned v ∧ RulesV n w' (fun k => w.heap.size ≤ k) v (blockF s.data.toList n r).2 ∧ ReaderAt w' b s (blockF s.data.toList n r).1 nilS ∧ But b w w'
theorem rulesV_form {n : Nat} {w : World} {P : Nat → Prop} {v : Value} {l : List (RT n)} (h : RulesV n w P v l) : ∃ aa nn cc, v = .slice aa nn cc := by
 cases n with
 | zero =>
  rcases Joins.ownsRow_forms h.1 with ⟨rfl, _⟩ | ⟨g, cap, rfl⟩ <;> exact ⟨_, _, _, rfl⟩
 | succ n =>
  obtain ⟨xs, h1, _⟩ := h
  rcases Joins.ownsRow_forms h1 with ⟨rfl, _⟩ | ⟨g, cap, rfl⟩ <;> exact ⟨_, _, _, rfl⟩
theorem sees_but (b : Nat) (s : ByteArray) (r : Rd) (pv : Value) (c : UInt8) (w : World) (h : ReaderAt w b s r pv) (hs : s.size ≤ 400) (hp : r.pos ≤ s.size) :
  Calls Tryz.prog 117 #[.pointer (some ⟨b, 0, none⟩), .int .u8 c.toNat] w fun e w' => e = .returned (.bool (r.seesOne s.data.toList c c)) ∧ ReaderAt w' b s r pv ∧ But b w w' := by
 refine (sees_any b s r pv c w h hs hp).mono ?_
 rintro e w' ⟨rfl, n, rfl⟩
 exact ⟨rfl, h.drewN n, (But.refl b _).drewN n⟩
theorem takeOne_range (t : List UInt8) (r : Rd) (a b : UInt8) : 0 ≤ (r.takeOne t a b).2 ∧ (r.takeOne t a b).2 ≤ 255 := by
 unfold Rd.takeOne
 split
 ·rename_i h
  have hlt := (sees_lt h).1
  have h2 : a ≤ t[r.pos] := by
   unfold Rd.seesOne at h
   rw [List.getElem?_eq_getElem hlt] at h
   simp at h
   exact h.2.1
  have h3 := UInt8.le_iff_toNat_le.mp h2
  have h4 := (t[r.pos]).toNat_lt
  have e : t.getD r.pos 0 = t[r.pos] := by simp [hlt]
  simp only [e]
  omega
 ·simp
set_option maxHeartbeats 1000000 in
theorem giveRule_any (s : ByteArray) (hs : s.size ≤ 400) (b : Nat) (r : Rd) (w : World) (h : ReaderAt w b s r nilS) (f : FitB s.data.toList r) (n : Nat) (hse : r.seesOne s.data.toList 97 122 = true) :
  Calls Tryz.prog 159 #[.pointer (some ⟨b, 0, none⟩)] w fun e w' => ∃ cs, e = .returned (.agg cs.toArray) ∧ RuleV n w' (fun k => w.heap.size ≤ k) cs (ruleF s.data.toList n r).2 ∧ ReaderAt w' b s (ruleF s.data.toList n r).1 nilS ∧ But b w w' := by
 unfold ruleF ruleU
 rw [if_pos hse]
 simp only
 have hsl : s.data.toList.length = s.size := by simp
 have p0 : r.pos ≤ s.size := by have := f.le; omega
 have a1 := takeOne_stp 97 122 f.le
 have a2 := takeOne_stp 61 61 a1.le
 have f2 := ((a1.trans a2).fitB f).fitR
 have a3 := expr_stp f2
 generalize hh_q1 : r.takeOne s.data.toList 97 122 = q1 at *
 have H_q1 : Hid (r.takeOne s.data.toList 97 122 = q1) := hh_q1
 clear hh_q1
 generalize hh_r2 : (q1.1.takeOne s.data.toList 61 61).1 = r2 at *
 have H_r2 : Hid ((q1.1.takeOne s.data.toList 61 61).1 = r2) := hh_r2
 clear hh_r2
 generalize hh_q3 : exprU s.data.toList r2 = q3 at *
 have H_q3 : Hid (exprU s.data.toList r2 = q3) := hh_q3
 clear hh_q3
 have F2 : Hid (FitR s.data.toList r2) := f2
 have p1 : q1.1.pos ≤ s.size := by have := a1.le; omega
 have p3 : q3.1.pos ≤ s.size := by have := a3.le; omega
 clear a1 a2 a3 f2 hse
 have HH : Hid (ReaderAt w b s r nilS) := h
 obtain ⟨c0, c1, c2, c3, c4, fz⟩ := h
 have hb : b < w.heap.size := World.block_lt_of_cell? w _ c0
 have hbn : ¬ b = w.heap.size := by omega
 have hbn1 : ¬ b = w.heap.size + 1 := by omega
 go_enter Tryz.func159, Tryz.ntmps159
 go_wp2_with fail
 refine (takeName_any b s r nilS _ (loc_start HH.out _ _ _ _ _ _ _ _ _ _).rd hs p0).mono ?_
 rw [H_q1.out]
 rintro e w1 ⟨rfl, hr1, hb1⟩
 have L1 := (loc_start HH.out _ _ _ _ _ _ _ _ _ _).call hr1 hb1
 have HL1 : Hid _ := L1
 clear c0 c1 c2 c3 c4 fz hr1 hb1
 obtain ⟨rd, g0, g1, g2, g3, g4, g5, g6, g7, gf, h0, h1, h2, h3, h4, h5, h6, h7, hf, but, size, lt⟩ := L1
 clear rd but
 go_wp2_with fail
 refine (take_any b s q1.1 nilS 61 _ (HL1.out.set2 _).rd hs p1).mono ?_
 rw [H_r2.out]
 rintro e w2 ⟨rfl, hr2, hb2⟩
 have L2 := (HL1.out.set2 _).call hr2 hb2
 have HL2 : Hid _ := L2
 clear HL1 g0 g1 g2 g3 g4 g5 g6 g7 gf h0 h1 h2 h3 h4 h5 h6 h7 hf size lt hr2 hb2
 obtain ⟨rd, g0, g1, g2, g3, g4, g5, g6, g7, gf, h0, h1, h2, h3, h4, h5, h6, h7, hf, but, size, lt⟩ := L2
 clear rd but
 go_wp2_with fail
 refine (takeExpr_any s hs b r2 nilS _ HL2.out.rd F2.out).mono ?_
 rw [H_q3.out]
 rintro e w3 ⟨ve, rfl, hr3, ho3, hb3⟩
 have L3 := HL2.out.call hr3 hb3
 have HL3 : Hid _ := L3
 have hve := Joins.ownsRow_forms ho3
 have PE_3 : Hid (PartsV w3 (Past w) ve q3.2) := ⟨own_mono ho3 (Nat.zero_le _), fun k hk => by have j1 := (ho3.lt k hk).1; have j2 := HL2.out.size; (try simp at j1); unfold Past; omega⟩
 clear ho3
 clear HL2 g0 g1 g2 g3 g4 g5 g6 g7 gf h0 h1 h2 h3 h4 h5 h6 h7 hf size lt hr3 hb3
 obtain ⟨rd, g0, g1, g2, g3, g4, g5, g6, g7, gf, h0, h1, h2, h3, h4, h5, h6, h7, hf, but, size, lt⟩ := L3
 clear rd but
 obtain ⟨aa, nn, cc, hvv⟩ : ∃ aa nn cc, ve = .slice aa nn cc := by
  rcases hve with ⟨rfl, _⟩ | ⟨g, cap, rfl⟩ <;> exact ⟨_, _, _, rfl⟩
 subst hvv
 clear hve
 go_wp2_with fail
 refine (take_any b s q3.1 nilS 59 _ (HL3.out.set5 _).rd hs p3).mono ?_
 rintro e w4 ⟨rfl, hr4, hb4⟩
 have L4 := (HL3.out.set5 _).call hr4 hb4
 have HL4 : Hid _ := L4
 have PE_4 : Hid _ := partsV_but (partsV_set PE_3.out _ _ (fun k hk => by unfold Past at hk; simp only; omega)) hb4 (fun k hk => by unfold Past at hk; omega)
 clear PE_3
 clear HL3 g0 g1 g2 g3 g4 g5 g6 g7 gf h0 h1 h2 h3 h4 h5 h6 h7 hf size lt hr4 hb4
 obtain ⟨rd, g0, g1, g2, g3, g4, g5, g6, g7, gf, h0, h1, h2, h3, h4, h5, h6, h7, hf, but, size, lt⟩ := L4
 clear rd but
 go_wp2_with fail
 refine bodyPost_ret (v := .agg #[.int .i64 0, .int .i64 r.pos, .int .i64 q1.2, .int .i64 0, .int .i64 0, .slice aa nn cc, .slice none 0 0, .slice none 0 0]) (by simp [results, Tryz.results159, go_sem, g0, g1, g2, g3, g4, g5, g6, g7, h0, h1, h2, h3, h4, h5, h6, h7, gf, hf]) rfl ?_
 obtain ⟨e1, e2, e3, e4⟩ := loc_end HL4.out (.int .i64 0) (.int .i64 r.pos) (.int .i64 q1.2) (.int .i64 0) (.int .i64 0) (.slice aa nn cc) (.slice none 0 0) (.slice none 0 0)
 exact ⟨[.int .i64 0, .int .i64 r.pos, .int .i64 q1.2, .int .i64 0, .int .i64 0, .slice aa nn cc, .slice none 0 0, .slice none 0 0], rfl, ⟨_, _, _, rfl, e3 _ _ PE_4.out, rulesV_nil _ _ _, rulesV_nil _ _ _⟩, e1, e2⟩
set_option maxHeartbeats 1000000 in
theorem openRule_any (s : ByteArray) (hs : s.size ≤ 400) (b : Nat) (r : Rd) (w : World) (h : ReaderAt w b s r nilS) (f : FitB s.data.toList r) (n : Nat) (hs1 : r.seesOne s.data.toList 97 122 = false) (hse : r.seesOne s.data.toList 94 94 = true) :
  Calls Tryz.prog 160 #[.pointer (some ⟨b, 0, none⟩)] w fun e w' => ∃ cs, e = .returned (.agg cs.toArray) ∧ RuleV n w' (fun k => w.heap.size ≤ k) cs (ruleF s.data.toList n r).2 ∧ ReaderAt w' b s (ruleF s.data.toList n r).1 nilS ∧ But b w w' := by
 unfold ruleF ruleU
 rw [if_neg (by rw [hs1]; decide), if_pos hse]
 simp only
 have hsl : s.data.toList.length = s.size := by simp
 have p0 : r.pos ≤ s.size := by have := f.le; omega
 have a0 := takeOne_stp 94 94 f.le
 have a1 := takeOne_stp 97 122 a0.le
 have a2 := takeOne_stp 58 58 a1.le
 have a3 := label_stp a2.le
 have a4 := takeOne_stp 61 61 a3.le
 have f4 := ((((a0.trans a1).trans a2).trans a3).trans a4).fitB f |>.fitR
 have a5 := expr_stp f4
 generalize hh_r0 : (r.takeOne s.data.toList 94 94).1 = r0 at *
 have H_r0 : Hid ((r.takeOne s.data.toList 94 94).1 = r0) := hh_r0
 clear hh_r0
 generalize hh_q1 : r0.takeOne s.data.toList 97 122 = q1 at *
 have H_q1 : Hid (r0.takeOne s.data.toList 97 122 = q1) := hh_q1
 clear hh_q1
 generalize hh_r2 : (q1.1.takeOne s.data.toList 58 58).1 = r2 at *
 have H_r2 : Hid ((q1.1.takeOne s.data.toList 58 58).1 = r2) := hh_r2
 clear hh_r2
 generalize hh_q3 : r2.label s.data.toList = q3 at *
 have H_q3 : Hid (r2.label s.data.toList = q3) := hh_q3
 clear hh_q3
 generalize hh_r4 : (q3.1.takeOne s.data.toList 61 61).1 = r4 at *
 have H_r4 : Hid ((q3.1.takeOne s.data.toList 61 61).1 = r4) := hh_r4
 clear hh_r4
 generalize hh_q5 : exprU s.data.toList r4 = q5 at *
 have H_q5 : Hid (exprU s.data.toList r4 = q5) := hh_q5
 clear hh_q5
 have F4 : Hid (FitR s.data.toList r4) := f4
 have p00 : r0.pos ≤ s.size := by have := a0.le; omega
 have p1 : q1.1.pos ≤ s.size := by have := a1.le; omega
 have p2 : r2.pos ≤ s.size := by have := a2.le; omega
 have p3 : q3.1.pos ≤ s.size := by have := a3.le; omega
 have p5 : q5.1.pos ≤ s.size := by have := a5.le; omega
 clear a0 a1 a2 a3 a4 a5 f4 hse hs1
 have HH : Hid (ReaderAt w b s r nilS) := h
 obtain ⟨c0, c1, c2, c3, c4, fz⟩ := h
 have hb : b < w.heap.size := World.block_lt_of_cell? w _ c0
 have hbn : ¬ b = w.heap.size := by omega
 have hbn1 : ¬ b = w.heap.size + 1 := by omega
 go_enter Tryz.func160, Tryz.ntmps160
 go_wp2_with fail
 refine (take_any b s r nilS 94 _ (loc_start HH.out _ _ _ _ _ _ _ _ _ _).rd hs p0).mono ?_
 rw [H_r0.out]
 rintro e w1 ⟨rfl, hr1, hb1⟩
 have L1 := (loc_start HH.out _ _ _ _ _ _ _ _ _ _).call hr1 hb1
 have HL1 : Hid _ := L1
 clear c0 c1 c2 c3 c4 fz hr1 hb1
 obtain ⟨rd, g0, g1, g2, g3, g4, g5, g6, g7, gf, h0, h1, h2, h3, h4, h5, h6, h7, hf, but, size, lt⟩ := L1
 clear rd but
 go_wp2_with fail
 refine (takeName_any b s r0 nilS _ HL1.out.rd hs p00).mono ?_
 rw [H_q1.out]
 rintro e w2 ⟨rfl, hr2, hb2⟩
 have L2 := HL1.out.call hr2 hb2
 have HL2 : Hid _ := L2
 clear HL1 g0 g1 g2 g3 g4 g5 g6 g7 gf h0 h1 h2 h3 h4 h5 h6 h7 hf size lt hr2 hb2
 obtain ⟨rd, g0, g1, g2, g3, g4, g5, g6, g7, gf, h0, h1, h2, h3, h4, h5, h6, h7, hf, but, size, lt⟩ := L2
 clear rd but
 go_wp2_with fail
 refine (take_any b s q1.1 nilS 58 _ (HL2.out.set2 _).rd hs p1).mono ?_
 rw [H_r2.out]
 rintro e w3 ⟨rfl, hr3, hb3⟩
 have L3 := (HL2.out.set2 _).call hr3 hb3
 have HL3 : Hid _ := L3
 clear HL2 g0 g1 g2 g3 g4 g5 g6 g7 gf h0 h1 h2 h3 h4 h5 h6 h7 hf size lt hr3 hb3
 obtain ⟨rd, g0, g1, g2, g3, g4, g5, g6, g7, gf, h0, h1, h2, h3, h4, h5, h6, h7, hf, but, size, lt⟩ := L3
 clear rd but
 go_wp2_with fail
 refine (label_rd b s r2 nilS _ HL3.out.rd hs p2).mono ?_
 rw [H_q3.out]
 rintro e w4 ⟨rfl, hr4, hb4⟩
 have L4 := HL3.out.call hr4 hb4
 have HL4 : Hid _ := L4
 clear HL3 g0 g1 g2 g3 g4 g5 g6 g7 gf h0 h1 h2 h3 h4 h5 h6 h7 hf size lt hr4 hb4
 obtain ⟨rd, g0, g1, g2, g3, g4, g5, g6, g7, gf, h0, h1, h2, h3, h4, h5, h6, h7, hf, but, size, lt⟩ := L4
 clear rd but
 go_wp2_with fail
 refine (take_any b s q3.1 nilS 61 _ (HL4.out.set3 _).rd hs p3).mono ?_
 rw [H_r4.out]
 rintro e w5 ⟨rfl, hr5, hb5⟩
 have L5 := (HL4.out.set3 _).call hr5 hb5
 have HL5 : Hid _ := L5
 clear HL4 g0 g1 g2 g3 g4 g5 g6 g7 gf h0 h1 h2 h3 h4 h5 h6 h7 hf size lt hr5 hb5
 obtain ⟨rd, g0, g1, g2, g3, g4, g5, g6, g7, gf, h0, h1, h2, h3, h4, h5, h6, h7, hf, but, size, lt⟩ := L5
 clear rd but
 go_wp2_with fail
 refine (takeExpr_any s hs b r4 nilS _ HL5.out.rd F4.out).mono ?_
 rw [H_q5.out]
 rintro e w6 ⟨ve, rfl, hr6, ho6, hb6⟩
 have L6 := HL5.out.call hr6 hb6
 have HL6 : Hid _ := L6
 have hve := Joins.ownsRow_forms ho6
 have PE_6 : Hid (PartsV w6 (Past w) ve q5.2) := ⟨own_mono ho6 (Nat.zero_le _), fun k hk => by have j1 := (ho6.lt k hk).1; have j2 := HL5.out.size; (try simp at j1); unfold Past; omega⟩
 clear ho6
 clear HL5 g0 g1 g2 g3 g4 g5 g6 g7 gf h0 h1 h2 h3 h4 h5 h6 h7 hf size lt hr6 hb6
 obtain ⟨rd, g0, g1, g2, g3, g4, g5, g6, g7, gf, h0, h1, h2, h3, h4, h5, h6, h7, hf, but, size, lt⟩ := L6
 clear rd but
 obtain ⟨aa, nn, cc, hvv⟩ : ∃ aa nn cc, ve = .slice aa nn cc := by
  rcases hve with ⟨rfl, _⟩ | ⟨g, cap, rfl⟩ <;> exact ⟨_, _, _, rfl⟩
 subst hvv
 clear hve
 go_wp2_with fail
 refine (take_any b s q5.1 nilS 59 _ (HL6.out.set5 _).rd hs p5).mono ?_
 rintro e w7 ⟨rfl, hr7, hb7⟩
 have L7 := (HL6.out.set5 _).call hr7 hb7
 have HL7 : Hid _ := L7
 have PE_7 : Hid _ := partsV_but (partsV_set PE_6.out _ _ (fun k hk => by unfold Past at hk; simp only; omega)) hb7 (fun k hk => by unfold Past at hk; omega)
 clear PE_6
 clear HL6 g0 g1 g2 g3 g4 g5 g6 g7 gf h0 h1 h2 h3 h4 h5 h6 h7 hf size lt hr7 hb7
 obtain ⟨rd, g0, g1, g2, g3, g4, g5, g6, g7, gf, h0, h1, h2, h3, h4, h5, h6, h7, hf, but, size, lt⟩ := L7
 clear rd but
 go_wp2_with fail
 refine bodyPost_ret (v := .agg #[.int .i64 1, .int .i64 r.pos, .int .i64 q1.2, .int .i64 q3.2, .int .i64 0, .slice aa nn cc, .slice none 0 0, .slice none 0 0]) (by simp [results, Tryz.results160, go_sem, g0, g1, g2, g3, g4, g5, g6, g7, h0, h1, h2, h3, h4, h5, h6, h7, gf, hf]) rfl ?_
 obtain ⟨e1, e2, e3, e4⟩ := loc_end HL7.out (.int .i64 1) (.int .i64 r.pos) (.int .i64 q1.2) (.int .i64 q3.2) (.int .i64 0) (.slice aa nn cc) (.slice none 0 0) (.slice none 0 0)
 exact ⟨[.int .i64 1, .int .i64 r.pos, .int .i64 q1.2, .int .i64 q3.2, .int .i64 0, .slice aa nn cc, .slice none 0 0, .slice none 0 0], rfl, ⟨_, _, _, rfl, e3 _ _ PE_7.out, rulesV_nil _ _ _, rulesV_nil _ _ _⟩, e1, e2⟩
set_option maxHeartbeats 1000000 in
theorem tellRule_any (s : ByteArray) (hs : s.size ≤ 400) (b : Nat) (r : Rd) (w : World) (h : ReaderAt w b s r nilS) (f : FitB s.data.toList r) (n : Nat) (hs1 : r.seesOne s.data.toList 97 122 = false) (hs2 : r.seesOne s.data.toList 94 94 = false) (hse : r.seesOne s.data.toList 62 62 = true) :
  Calls Tryz.prog 161 #[.pointer (some ⟨b, 0, none⟩)] w fun e w' => ∃ cs, e = .returned (.agg cs.toArray) ∧ RuleV n w' (fun k => w.heap.size ≤ k) cs (ruleF s.data.toList n r).2 ∧ ReaderAt w' b s (ruleF s.data.toList n r).1 nilS ∧ But b w w' := by
 unfold ruleF ruleU
 rw [if_neg (by rw [hs1]; decide), if_neg (by rw [hs2]; decide), if_pos hse]
 simp only
 have hsl : s.data.toList.length = s.size := by simp
 have p0 : r.pos ≤ s.size := by have := f.le; omega
 have a0 := takeOne_stp 62 62 f.le
 have a3 := label_stp a0.le
 have f4 := (a0.trans a3).fitB f |>.fitR
 have a5 := expr_stp f4
 generalize hh_r0 : (r.takeOne s.data.toList 62 62).1 = r0 at *
 have H_r0 : Hid ((r.takeOne s.data.toList 62 62).1 = r0) := hh_r0
 clear hh_r0
 generalize hh_q3 : r0.label s.data.toList = q3 at *
 have H_q3 : Hid (r0.label s.data.toList = q3) := hh_q3
 clear hh_q3
 generalize hh_q5 : exprU s.data.toList q3.1 = q5 at *
 have H_q5 : Hid (exprU s.data.toList q3.1 = q5) := hh_q5
 clear hh_q5
 have F4 : Hid (FitR s.data.toList q3.1) := f4
 have p00 : r0.pos ≤ s.size := by have := a0.le; omega
 have p5 : q5.1.pos ≤ s.size := by have := a5.le; omega
 clear a0 a3 a5 f4 hse hs1 hs2
 have HH : Hid (ReaderAt w b s r nilS) := h
 obtain ⟨c0, c1, c2, c3, c4, fz⟩ := h
 have hb : b < w.heap.size := World.block_lt_of_cell? w _ c0
 have hbn : ¬ b = w.heap.size := by omega
 have hbn1 : ¬ b = w.heap.size + 1 := by omega
 go_enter Tryz.func161, Tryz.ntmps161
 go_wp2_with fail
 refine (take_any b s r nilS 62 _ (loc_start HH.out _ _ _ _ _ _ _ _ _ _).rd hs p0).mono ?_
 rw [H_r0.out]
 rintro e w1 ⟨rfl, hr1, hb1⟩
 have L1 := (loc_start HH.out _ _ _ _ _ _ _ _ _ _).call hr1 hb1
 have HL1 : Hid _ := L1
 clear c0 c1 c2 c3 c4 fz hr1 hb1
 obtain ⟨rd, g0, g1, g2, g3, g4, g5, g6, g7, gf, h0, h1, h2, h3, h4, h5, h6, h7, hf, but, size, lt⟩ := L1
 clear rd but
 go_wp2_with fail
 refine (label_rd b s r0 nilS _ HL1.out.rd hs p00).mono ?_
 rw [H_q3.out]
 rintro e w2 ⟨rfl, hr2, hb2⟩
 have L2 := HL1.out.call hr2 hb2
 have HL2 : Hid _ := L2
 clear HL1 g0 g1 g2 g3 g4 g5 g6 g7 gf h0 h1 h2 h3 h4 h5 h6 h7 hf size lt hr2 hb2
 obtain ⟨rd, g0, g1, g2, g3, g4, g5, g6, g7, gf, h0, h1, h2, h3, h4, h5, h6, h7, hf, but, size, lt⟩ := L2
 clear rd but
 go_wp2_with fail
 refine (takeExpr_any s hs b q3.1 nilS _ (HL2.out.set3 _).rd F4.out).mono ?_
 rw [H_q5.out]
 rintro e w3 ⟨ve, rfl, hr3, ho3, hb3⟩
 have L3 := (HL2.out.set3 _).call hr3 hb3
 have HL3 : Hid _ := L3
 have hve := Joins.ownsRow_forms ho3
 have PE_3 : Hid (PartsV w3 (Past w) ve q5.2) := ⟨own_mono ho3 (Nat.zero_le _), fun k hk => by have j1 := (ho3.lt k hk).1; have j2 := HL2.out.size; (try simp at j1); unfold Past; omega⟩
 clear ho3
 clear HL2 g0 g1 g2 g3 g4 g5 g6 g7 gf h0 h1 h2 h3 h4 h5 h6 h7 hf size lt hr3 hb3
 obtain ⟨rd, g0, g1, g2, g3, g4, g5, g6, g7, gf, h0, h1, h2, h3, h4, h5, h6, h7, hf, but, size, lt⟩ := L3
 clear rd but
 obtain ⟨aa, nn, cc, hvv⟩ : ∃ aa nn cc, ve = .slice aa nn cc := by
  rcases hve with ⟨rfl, _⟩ | ⟨g, cap, rfl⟩ <;> exact ⟨_, _, _, rfl⟩
 subst hvv
 clear hve
 go_wp2_with fail
 refine (take_any b s q5.1 nilS 59 _ (HL3.out.set5 _).rd hs p5).mono ?_
 rintro e w4 ⟨rfl, hr4, hb4⟩
 have L4 := (HL3.out.set5 _).call hr4 hb4
 have HL4 : Hid _ := L4
 have PE_4 : Hid _ := partsV_but (partsV_set PE_3.out _ _ (fun k hk => by unfold Past at hk; simp only; omega)) hb4 (fun k hk => by unfold Past at hk; omega)
 clear PE_3
 clear HL3 g0 g1 g2 g3 g4 g5 g6 g7 gf h0 h1 h2 h3 h4 h5 h6 h7 hf size lt hr4 hb4
 obtain ⟨rd, g0, g1, g2, g3, g4, g5, g6, g7, gf, h0, h1, h2, h3, h4, h5, h6, h7, hf, but, size, lt⟩ := L4
 clear rd but
 go_wp2_with fail
 refine bodyPost_ret (v := .agg #[.int .i64 2, .int .i64 r.pos, .int .i64 0, .int .i64 q3.2, .int .i64 0, .slice aa nn cc, .slice none 0 0, .slice none 0 0]) (by simp [results, Tryz.results161, go_sem, g0, g1, g2, g3, g4, g5, g6, g7, h0, h1, h2, h3, h4, h5, h6, h7, gf, hf]) rfl ?_
 obtain ⟨e1, e2, e3, e4⟩ := loc_end HL4.out (.int .i64 2) (.int .i64 r.pos) (.int .i64 0) (.int .i64 q3.2) (.int .i64 0) (.slice aa nn cc) (.slice none 0 0) (.slice none 0 0)
 exact ⟨[.int .i64 2, .int .i64 r.pos, .int .i64 0, .int .i64 q3.2, .int .i64 0, .slice aa nn cc, .slice none 0 0, .slice none 0 0], rfl, ⟨_, _, _, rfl, e3 _ _ PE_4.out, rulesV_nil _ _ _, rulesV_nil _ _ _⟩, e1, e2⟩
set_option maxHeartbeats 1000000 in
theorem condRule1_any (s : ByteArray) (hs : s.size ≤ 400) (b : Nat) (r : Rd) (w : World) (h : ReaderAt w b s r nilS) (f : FitB s.data.toList r) (n : Nat) (hB : BlkCalls s n) (hn : 8 ≤ r.depth + n) (hs1 : r.seesOne s.data.toList 97 122 = false) (hs2 : r.seesOne s.data.toList 94 94 = false) (hs3 : r.seesOne s.data.toList 62 62 = false) (hse : r.seesOne s.data.toList 40 40 = true)
  (hsec : (blockF s.data.toList n ((exprU s.data.toList (r.opening s.data.toList 40)).1.closing s.data.toList 41)).1.seesOne s.data.toList 123 123 = false) :
  Calls Tryz.prog 162 #[.pointer (some ⟨b, 0, none⟩)] w fun e w' => ∃ cs, e = .returned (.agg cs.toArray) ∧ RuleV n w' (fun k => w.heap.size ≤ k) cs (ruleF s.data.toList n r).2 ∧ ReaderAt w' b s (ruleF s.data.toList n r).1 nilS ∧ But b w w' := by
 unfold ruleF ruleU
 rw [if_neg (by rw [hs1]; decide), if_neg (by rw [hs2]; decide), if_neg (by rw [hs3]; decide), if_pos hse]
 simp only
 rw [if_neg (by rw [hsec]; decide)]
 have hsl : s.data.toList.length = s.size := by simp
 have p0 : r.pos ≤ s.size := by have := f.le; omega
 have d0 := f.d0
 have d8 := f.d8
 have f1 := opening_fitR 40 f
 have a2 := expr_stp f1
 have a3 := pair_stp 40 41 f a2
 have f3 := a3.fitB f
 have a4 := blockF_stp s.data.toList n _ f3
 have f4 := a4.fitB f3
 have o3 := (opening_facts 40 f.le).2.2.1
 have e3 := a2.depth
 have e4 := a4.depth
 generalize hh_r1 : r.opening s.data.toList 40 = r1 at *
 have H_r1 : Hid (r.opening s.data.toList 40 = r1) := hh_r1
 clear hh_r1
 generalize hh_q2 : exprU s.data.toList r1 = q2 at *
 have H_q2 : Hid (exprU s.data.toList r1 = q2) := hh_q2
 clear hh_q2
 generalize hh_r3 : q2.1.closing s.data.toList 41 = r3 at *
 have H_r3 : Hid (q2.1.closing s.data.toList 41 = r3) := hh_r3
 clear hh_r3
 generalize hh_q4 : blockF s.data.toList n r3 = q4 at *
 have H_q4 : Hid (blockF s.data.toList n r3 = q4) := hh_q4
 clear hh_q4
 have F1 : Hid (FitR s.data.toList r1) := f1
 have F3 : Hid (FitB s.data.toList r3) := f3
 have F4 : Hid (FitB s.data.toList q4.1) := f4
 have HB : Hid (BlkCalls s n) := hB
 have d3 : r3.depth = r.depth := a3.depth
 have p2 : q2.1.pos ≤ s.size := by have := a2.le; omega
 have p4 : q4.1.pos ≤ s.size := by have := a4.le; omega
 clear a2 a3 a4 f1 f3 f4 hse hs1 hs2 hs3 hB
 have HH : Hid (ReaderAt w b s r nilS) := h
 obtain ⟨c0, c1, c2, c3, c4, fz⟩ := h
 have hb : b < w.heap.size := World.block_lt_of_cell? w _ c0
 have hbn : ¬ b = w.heap.size := by omega
 have hbn1 : ¬ b = w.heap.size + 1 := by omega
 go_enter Tryz.func162, Tryz.ntmps162
 go_wp2_with fail
 refine (opening_any b s r nilS 40 _ (loc_start HH.out _ _ _ _ _ _ _ _ _ _).rd hs p0 (by omega) (by omega)).mono ?_
 rw [H_r1.out]
 rintro e w1 ⟨rfl, hr1, hb1⟩
 have L1 := (loc_start HH.out _ _ _ _ _ _ _ _ _ _).call hr1 hb1
 have HL1 : Hid _ := L1
 clear c0 c1 c2 c3 c4 fz hr1 hb1
 obtain ⟨rd, g0, g1, g2, g3, g4, g5, g6, g7, gf, h0, h1, h2, h3, h4, h5, h6, h7, hf, but, size, lt⟩ := L1
 clear rd but
 go_wp2_with fail
 refine (takeExpr_any s hs b r1 nilS _ HL1.out.rd F1.out).mono ?_
 rw [H_q2.out]
 rintro e w2 ⟨ve, rfl, hr2, ho2, hb2⟩
 have L2 := HL1.out.call hr2 hb2
 have HL2 : Hid _ := L2
 have hve := Joins.ownsRow_forms ho2
 have PE_2 : Hid (PartsV w2 (Past w) ve q2.2) := ⟨own_mono ho2 (Nat.zero_le _), fun k hk => by have j1 := (ho2.lt k hk).1; have j2 := HL1.out.size; (try simp at j1); unfold Past; omega⟩
 clear ho2
 clear HL1 g0 g1 g2 g3 g4 g5 g6 g7 gf h0 h1 h2 h3 h4 h5 h6 h7 hf size lt hr2 hb2
 obtain ⟨rd, g0, g1, g2, g3, g4, g5, g6, g7, gf, h0, h1, h2, h3, h4, h5, h6, h7, hf, but, size, lt⟩ := L2
 clear rd but
 obtain ⟨aa, nn, cc, hvv⟩ : ∃ aa nn cc, ve = .slice aa nn cc := by
  rcases hve with ⟨rfl, _⟩ | ⟨g, cap, rfl⟩ <;> exact ⟨_, _, _, rfl⟩
 subst hvv
 clear hve
 go_wp2_with fail
 refine (closing_any b s q2.1 nilS 41 _ (HL2.out.set5 _).rd hs p2 (by omega) (by omega)).mono ?_
 rw [H_r3.out]
 rintro e w3 ⟨rfl, hr3, hb3⟩
 have L3 := (HL2.out.set5 _).call hr3 hb3
 have HL3 : Hid _ := L3
 have PE_3 : Hid _ := partsV_but (partsV_set PE_2.out _ _ (fun k hk => by unfold Past at hk; simp only; omega)) hb3 (fun k hk => by unfold Past at hk; omega)
 clear PE_2
 clear HL2 g0 g1 g2 g3 g4 g5 g6 g7 gf h0 h1 h2 h3 h4 h5 h6 h7 hf size lt hr3 hb3
 obtain ⟨rd, g0, g1, g2, g3, g4, g5, g6, g7, gf, h0, h1, h2, h3, h4, h5, h6, h7, hf, but, size, lt⟩ := L3
 clear rd but
 go_wp2_with fail
 refine (HB.out b r3 _ HL3.out.rd F3.out (by omega)).mono ?_
 rw [H_q4.out]
 rintro e w4 ⟨vb4, rfl, hv4, hr4, hb4⟩
 have L4 := HL3.out.call hr4 hb4
 have HL4 : Hid _ := L4
 have hvf := rulesV_form hv4
 have BA_4 : Hid (RulesV n w4 (Past w) vb4 q4.2) := rulesV_mono hv4 (fun k hk => by have j2 := HL3.out.size; (try simp at hk); unfold Past; omega)
 clear hv4
 have PE_4 : Hid _ := partsV_but PE_3.out hb4 (fun k hk => by unfold Past at hk; omega)
 clear PE_3
 clear HL3 g0 g1 g2 g3 g4 g5 g6 g7 gf h0 h1 h2 h3 h4 h5 h6 h7 hf size lt hr4 hb4
 obtain ⟨rd, g0, g1, g2, g3, g4, g5, g6, g7, gf, h0, h1, h2, h3, h4, h5, h6, h7, hf, but, size, lt⟩ := L4
 clear rd but
 obtain ⟨aa4, nn4, cc4, hvv⟩ := hvf
 subst hvv
 go_wp2_with fail
 refine (sees_but b s q4.1 nilS 123 _ (HL4.out.set6 _).rd hs p4).mono ?_
 rw [hsec]
 rintro e w5 ⟨rfl, hr5, hb5⟩
 have L5 := (HL4.out.set6 _).call hr5 hb5
 have HL5 : Hid _ := L5
 have PE_5 : Hid _ := partsV_but (partsV_set PE_4.out _ _ (fun k hk => by unfold Past at hk; simp only; omega)) hb5 (fun k hk => by unfold Past at hk; omega)
 have BA_5 : Hid _ := rulesV_but (rulesV_set BA_4.out _ _ (fun k hk => by unfold Past at hk; simp only; omega)) hb5 (fun k hk => by unfold Past at hk; omega)
 clear PE_4
 clear BA_4
 clear HL4 g0 g1 g2 g3 g4 g5 g6 g7 gf h0 h1 h2 h3 h4 h5 h6 h7 hf size lt hr5 hb5
 obtain ⟨rd, g0, g1, g2, g3, g4, g5, g6, g7, gf, h0, h1, h2, h3, h4, h5, h6, h7, hf, but, size, lt⟩ := L5
 clear rd but
 go_wp2_with fail
 refine bodyPost_ret (v := .agg #[.int .i64 3, .int .i64 r.pos, .int .i64 0, .int .i64 0, .int .i64 0, .slice aa nn cc, .slice aa4 nn4 cc4, .slice none 0 0]) (by simp [results, Tryz.results162, go_sem, g0, g1, g2, g3, g4, g5, g6, g7, h0, h1, h2, h3, h4, h5, h6, h7, gf, hf]) rfl ?_
 obtain ⟨e1, e2, e3, e4⟩ := loc_end HL5.out (.int .i64 3) (.int .i64 r.pos) (.int .i64 0) (.int .i64 0) (.int .i64 0) (.slice aa nn cc) (.slice aa4 nn4 cc4) (.slice none 0 0)
 exact ⟨[.int .i64 3, .int .i64 r.pos, .int .i64 0, .int .i64 0, .int .i64 0, .slice aa nn cc, .slice aa4 nn4 cc4, .slice none 0 0], rfl, ⟨_, _, _, rfl, e3 _ _ PE_5.out, e4 _ _ _ BA_5.out, rulesV_nil _ _ _⟩, e1, e2⟩
set_option maxHeartbeats 1000000 in
theorem condRule2_any (s : ByteArray) (hs : s.size ≤ 400) (b : Nat) (r : Rd) (w : World) (h : ReaderAt w b s r nilS) (f : FitB s.data.toList r) (n : Nat) (hB : BlkCalls s n) (hn : 8 ≤ r.depth + n) (hs1 : r.seesOne s.data.toList 97 122 = false) (hs2 : r.seesOne s.data.toList 94 94 = false) (hs3 : r.seesOne s.data.toList 62 62 = false) (hse : r.seesOne s.data.toList 40 40 = true)
  (hsec : (blockF s.data.toList n ((exprU s.data.toList (r.opening s.data.toList 40)).1.closing s.data.toList 41)).1.seesOne s.data.toList 123 123 = true) :
  Calls Tryz.prog 162 #[.pointer (some ⟨b, 0, none⟩)] w fun e w' => ∃ cs, e = .returned (.agg cs.toArray) ∧ RuleV n w' (fun k => w.heap.size ≤ k) cs (ruleF s.data.toList n r).2 ∧ ReaderAt w' b s (ruleF s.data.toList n r).1 nilS ∧ But b w w' := by
 unfold ruleF ruleU
 rw [if_neg (by rw [hs1]; decide), if_neg (by rw [hs2]; decide), if_neg (by rw [hs3]; decide), if_pos hse]
 simp only
 rw [if_pos hsec]
 have hsl : s.data.toList.length = s.size := by simp
 have p0 : r.pos ≤ s.size := by have := f.le; omega
 have d0 := f.d0
 have d8 := f.d8
 have f1 := opening_fitR 40 f
 have a2 := expr_stp f1
 have a3 := pair_stp 40 41 f a2
 have f3 := a3.fitB f
 have a4 := blockF_stp s.data.toList n _ f3
 have f4 := a4.fitB f3
 have o3 := (opening_facts 40 f.le).2.2.1
 have e3 := a2.depth
 have e4 := a4.depth
 generalize hh_r1 : r.opening s.data.toList 40 = r1 at *
 have H_r1 : Hid (r.opening s.data.toList 40 = r1) := hh_r1
 clear hh_r1
 generalize hh_q2 : exprU s.data.toList r1 = q2 at *
 have H_q2 : Hid (exprU s.data.toList r1 = q2) := hh_q2
 clear hh_q2
 generalize hh_r3 : q2.1.closing s.data.toList 41 = r3 at *
 have H_r3 : Hid (q2.1.closing s.data.toList 41 = r3) := hh_r3
 clear hh_r3
 generalize hh_q4 : blockF s.data.toList n r3 = q4 at *
 have H_q4 : Hid (blockF s.data.toList n r3 = q4) := hh_q4
 clear hh_q4
 have F1 : Hid (FitR s.data.toList r1) := f1
 have F3 : Hid (FitB s.data.toList r3) := f3
 have F4 : Hid (FitB s.data.toList q4.1) := f4
 have HB : Hid (BlkCalls s n) := hB
 have d3 : r3.depth = r.depth := a3.depth
 have p2 : q2.1.pos ≤ s.size := by have := a2.le; omega
 have p4 : q4.1.pos ≤ s.size := by have := a4.le; omega
 clear a2 a3 a4 f1 f3 f4 hse hs1 hs2 hs3 hB
 have HH : Hid (ReaderAt w b s r nilS) := h
 obtain ⟨c0, c1, c2, c3, c4, fz⟩ := h
 have hb : b < w.heap.size := World.block_lt_of_cell? w _ c0
 have hbn : ¬ b = w.heap.size := by omega
 have hbn1 : ¬ b = w.heap.size + 1 := by omega
 go_enter Tryz.func162, Tryz.ntmps162
 go_wp2_with fail
 refine (opening_any b s r nilS 40 _ (loc_start HH.out _ _ _ _ _ _ _ _ _ _).rd hs p0 (by omega) (by omega)).mono ?_
 rw [H_r1.out]
 rintro e w1 ⟨rfl, hr1, hb1⟩
 have L1 := (loc_start HH.out _ _ _ _ _ _ _ _ _ _).call hr1 hb1
 have HL1 : Hid _ := L1
 clear c0 c1 c2 c3 c4 fz hr1 hb1
 obtain ⟨rd, g0, g1, g2, g3, g4, g5, g6, g7, gf, h0, h1, h2, h3, h4, h5, h6, h7, hf, but, size, lt⟩ := L1
 clear rd but
 go_wp2_with fail
 refine (takeExpr_any s hs b r1 nilS _ HL1.out.rd F1.out).mono ?_
 rw [H_q2.out]
 rintro e w2 ⟨ve, rfl, hr2, ho2, hb2⟩
 have L2 := HL1.out.call hr2 hb2
 have HL2 : Hid _ := L2
 have hve := Joins.ownsRow_forms ho2
 have PE_2 : Hid (PartsV w2 (Past w) ve q2.2) := ⟨own_mono ho2 (Nat.zero_le _), fun k hk => by have j1 := (ho2.lt k hk).1; have j2 := HL1.out.size; (try simp at j1); unfold Past; omega⟩
 clear ho2
 clear HL1 g0 g1 g2 g3 g4 g5 g6 g7 gf h0 h1 h2 h3 h4 h5 h6 h7 hf size lt hr2 hb2
 obtain ⟨rd, g0, g1, g2, g3, g4, g5, g6, g7, gf, h0, h1, h2, h3, h4, h5, h6, h7, hf, but, size, lt⟩ := L2
 clear rd but
 obtain ⟨aa, nn, cc, hvv⟩ : ∃ aa nn cc, ve = .slice aa nn cc := by
  rcases hve with ⟨rfl, _⟩ | ⟨g, cap, rfl⟩ <;> exact ⟨_, _, _, rfl⟩
 subst hvv
 clear hve
 go_wp2_with fail
 refine (closing_any b s q2.1 nilS 41 _ (HL2.out.set5 _).rd hs p2 (by omega) (by omega)).mono ?_
 rw [H_r3.out]
 rintro e w3 ⟨rfl, hr3, hb3⟩
 have L3 := (HL2.out.set5 _).call hr3 hb3
 have HL3 : Hid _ := L3
 have PE_3 : Hid _ := partsV_but (partsV_set PE_2.out _ _ (fun k hk => by unfold Past at hk; simp only; omega)) hb3 (fun k hk => by unfold Past at hk; omega)
 clear PE_2
 clear HL2 g0 g1 g2 g3 g4 g5 g6 g7 gf h0 h1 h2 h3 h4 h5 h6 h7 hf size lt hr3 hb3
 obtain ⟨rd, g0, g1, g2, g3, g4, g5, g6, g7, gf, h0, h1, h2, h3, h4, h5, h6, h7, hf, but, size, lt⟩ := L3
 clear rd but
 go_wp2_with fail
 refine (HB.out b r3 _ HL3.out.rd F3.out (by omega)).mono ?_
 rw [H_q4.out]
 rintro e w4 ⟨vb4, rfl, hv4, hr4, hb4⟩
 have L4 := HL3.out.call hr4 hb4
 have HL4 : Hid _ := L4
 have hvf := rulesV_form hv4
 have BA_4 : Hid (RulesV n w4 (Past w) vb4 q4.2) := rulesV_mono hv4 (fun k hk => by have j2 := HL3.out.size; (try simp at hk); unfold Past; omega)
 clear hv4
 have PE_4 : Hid _ := partsV_but PE_3.out hb4 (fun k hk => by unfold Past at hk; omega)
 clear PE_3
 clear HL3 g0 g1 g2 g3 g4 g5 g6 g7 gf h0 h1 h2 h3 h4 h5 h6 h7 hf size lt hr4 hb4
 obtain ⟨rd, g0, g1, g2, g3, g4, g5, g6, g7, gf, h0, h1, h2, h3, h4, h5, h6, h7, hf, but, size, lt⟩ := L4
 clear rd but
 obtain ⟨aa4, nn4, cc4, hvv⟩ := hvf
 subst hvv
 go_wp2_with fail
 refine (sees_but b s q4.1 nilS 123 _ (HL4.out.set6 _).rd hs p4).mono ?_
 rw [hsec]
 rintro e w5 ⟨rfl, hr5, hb5⟩
 have L5 := (HL4.out.set6 _).call hr5 hb5
 have HL5 : Hid _ := L5
 have PE_5 : Hid _ := partsV_but (partsV_set PE_4.out _ _ (fun k hk => by unfold Past at hk; simp only; omega)) hb5 (fun k hk => by unfold Past at hk; omega)
 have BA_5 : Hid _ := rulesV_but (rulesV_set BA_4.out _ _ (fun k hk => by unfold Past at hk; simp only; omega)) hb5 (fun k hk => by unfold Past at hk; omega)
 clear PE_4
 clear BA_4
 clear HL4 g0 g1 g2 g3 g4 g5 g6 g7 gf h0 h1 h2 h3 h4 h5 h6 h7 hf size lt hr5 hb5
 obtain ⟨rd, g0, g1, g2, g3, g4, g5, g6, g7, gf, h0, h1, h2, h3, h4, h5, h6, h7, hf, but, size, lt⟩ := L5
 clear rd but
 go_wp2_with fail
 refine (HB.out b q4.1 _ HL5.out.rd F4.out (by omega)).mono ?_
 rintro e w6 ⟨vb6, rfl, hv6, hr6, hb6⟩
 have L6 := HL5.out.call hr6 hb6
 have HL6 : Hid _ := L6
 have hvf := rulesV_form hv6
 have BB_6 : Hid (RulesV n w6 (Past w) vb6 (blockF s.data.toList n q4.1).2) := rulesV_mono hv6 (fun k hk => by have j2 := HL5.out.size; (try simp at hk); unfold Past; omega)
 clear hv6
 have PE_6 : Hid _ := partsV_but PE_5.out hb6 (fun k hk => by unfold Past at hk; omega)
 have BA_6 : Hid _ := rulesV_but BA_5.out hb6 (fun k hk => by unfold Past at hk; omega)
 clear PE_5
 clear BA_5
 clear HL5 g0 g1 g2 g3 g4 g5 g6 g7 gf h0 h1 h2 h3 h4 h5 h6 h7 hf size lt hr6 hb6
 obtain ⟨rd, g0, g1, g2, g3, g4, g5, g6, g7, gf, h0, h1, h2, h3, h4, h5, h6, h7, hf, but, size, lt⟩ := L6
 clear rd but
 obtain ⟨aa6, nn6, cc6, hvv⟩ := hvf
 subst hvv
 go_wp2_with fail
 refine bodyPost_ret (v := .agg #[.int .i64 3, .int .i64 r.pos, .int .i64 0, .int .i64 0, .int .i64 0, .slice aa nn cc, .slice aa4 nn4 cc4, .slice aa6 nn6 cc6]) (by simp [results, Tryz.results162, go_sem, g0, g1, g2, g3, g4, g5, g6, g7, h0, h1, h2, h3, h4, h5, h6, h7, gf, hf]) rfl ?_
 obtain ⟨e1, e2, e3, e4⟩ := loc_end (HL6.out.set7 _) (.int .i64 3) (.int .i64 r.pos) (.int .i64 0) (.int .i64 0) (.int .i64 0) (.slice aa nn cc) (.slice aa4 nn4 cc4) (.slice aa6 nn6 cc6)
 exact ⟨[.int .i64 3, .int .i64 r.pos, .int .i64 0, .int .i64 0, .int .i64 0, .slice aa nn cc, .slice aa4 nn4 cc4, .slice aa6 nn6 cc6], rfl, ⟨_, _, _, rfl, e3 _ _ (partsV_set PE_6.out _ _ (fun k hk => by unfold Past at hk; simp only; omega)), e4 _ _ _ (rulesV_set BA_6.out _ _ (fun k hk => by unfold Past at hk; simp only; omega)), e4 _ _ _ (rulesV_set BB_6.out _ _ (fun k hk => by unfold Past at hk; simp only; omega))⟩, e1, e2⟩
set_option maxHeartbeats 1000000 in
theorem loopRule_any (s : ByteArray) (hs : s.size ≤ 400) (b : Nat) (r : Rd) (w : World) (h : ReaderAt w b s r nilS) (f : FitB s.data.toList r) (n : Nat) (hB : BlkCalls s n) (hn : 8 ≤ r.depth + n) (hs1 : r.seesOne s.data.toList 97 122 = false) (hs2 : r.seesOne s.data.toList 94 94 = false) (hs3 : r.seesOne s.data.toList 62 62 = false) (hs4 : r.seesOne s.data.toList 40 40 = false) (hse : r.seesOne s.data.toList 42 42 = true) :
  Calls Tryz.prog 163 #[.pointer (some ⟨b, 0, none⟩)] w fun e w' => ∃ cs, e = .returned (.agg cs.toArray) ∧ RuleV n w' (fun k => w.heap.size ≤ k) cs (ruleF s.data.toList n r).2 ∧ ReaderAt w' b s (ruleF s.data.toList n r).1 nilS ∧ But b w w' := by
 unfold ruleF ruleU
 rw [if_neg (by rw [hs1]; decide), if_neg (by rw [hs2]; decide), if_neg (by rw [hs3]; decide), if_neg (by rw [hs4]; decide), if_pos hse]
 simp only
 have hsl : s.data.toList.length = s.size := by simp
 have p0 : r.pos ≤ s.size := by have := f.le; omega
 have a0 := room_stp (t := s.data.toList) f.le
 have a1 := takeOne_stp 42 42 a0.le
 have a2 := takeOne_stp 49 57 a1.le
 have f2 := ((a0.trans a1).trans a2).fitB f
 have e2 := ((a0.trans a1).trans a2).depth
 have cr := takeOne_range s.data.toList (r.room.takeOne s.data.toList 42 42).1 49 57
 generalize hh_r0 : r.room = r0 at *
 have H_r0 : Hid (r.room = r0) := hh_r0
 clear hh_r0
 generalize hh_r1 : (r0.takeOne s.data.toList 42 42).1 = r1 at *
 have H_r1 : Hid ((r0.takeOne s.data.toList 42 42).1 = r1) := hh_r1
 clear hh_r1
 generalize hh_q2 : r1.takeOne s.data.toList 49 57 = q2 at *
 have H_q2 : Hid (r1.takeOne s.data.toList 49 57 = q2) := hh_q2
 clear hh_q2
 have F2 : Hid (FitB s.data.toList q2.1) := f2
 have HB : Hid (BlkCalls s n) := hB
 have p00 : r0.pos ≤ s.size := by have := a0.le; omega
 have p1 : r1.pos ≤ s.size := by have := a1.le; omega
 obtain ⟨cr1, cr2⟩ := cr
 clear a0 a1 a2 f2 hse hs1 hs2 hs3 hs4 hB
 have HH : Hid (ReaderAt w b s r nilS) := h
 obtain ⟨c0, c1, c2, c3, c4, fz⟩ := h
 have hb : b < w.heap.size := World.block_lt_of_cell? w _ c0
 have hbn : ¬ b = w.heap.size := by omega
 have hbn1 : ¬ b = w.heap.size + 1 := by omega
 go_enter Tryz.func163, Tryz.ntmps163
 go_wp2_with fail
 refine (needRoom_any b s r nilS _ (loc_start HH.out _ _ _ _ _ _ _ _ _ _).rd).mono ?_
 rw [H_r0.out]
 rintro e w1 ⟨rfl, hr1, hb1⟩
 have L1 := (loc_start HH.out _ _ _ _ _ _ _ _ _ _).call hr1 hb1
 have HL1 : Hid _ := L1
 clear c0 c1 c2 c3 c4 fz hr1 hb1
 obtain ⟨rd, g0, g1, g2, g3, g4, g5, g6, g7, gf, h0, h1, h2, h3, h4, h5, h6, h7, hf, but, size, lt⟩ := L1
 clear rd but
 go_wp2_with fail
 refine (take_any b s r0 nilS 42 _ HL1.out.rd hs p00).mono ?_
 rw [H_r1.out]
 rintro e w2 ⟨rfl, hr2, hb2⟩
 have L2 := HL1.out.call hr2 hb2
 have HL2 : Hid _ := L2
 clear HL1 g0 g1 g2 g3 g4 g5 g6 g7 gf h0 h1 h2 h3 h4 h5 h6 h7 hf size lt hr2 hb2
 obtain ⟨rd, g0, g1, g2, g3, g4, g5, g6, g7, gf, h0, h1, h2, h3, h4, h5, h6, h7, hf, but, size, lt⟩ := L2
 clear rd but
 go_wp2_with fail
 refine (takeOne_any b s r1 nilS 49 57 _ HL2.out.rd hs p1).mono ?_
 rw [H_q2.out]
 rintro e w3 ⟨rfl, hr3, hb3⟩
 have L3 := HL2.out.call hr3 hb3
 have HL3 : Hid _ := L3
 clear HL2 g0 g1 g2 g3 g4 g5 g6 g7 gf h0 h1 h2 h3 h4 h5 h6 h7 hf size lt hr3 hb3
 obtain ⟨rd, g0, g1, g2, g3, g4, g5, g6, g7, gf, h0, h1, h2, h3, h4, h5, h6, h7, hf, but, size, lt⟩ := L3
 clear rd but
 go_wp2_with fail
 refine (HB.out b q2.1 _ (HL3.out.set4 _).rd F2.out (by omega)).mono ?_
 rintro e w4 ⟨vb4, rfl, hv4, hr4, hb4⟩
 have L4 := (HL3.out.set4 _).call hr4 hb4
 have HL4 : Hid _ := L4
 have hvf := rulesV_form hv4
 have BA_4 : Hid (RulesV n w4 (Past w) vb4 (blockF s.data.toList n q2.1).2) := rulesV_mono hv4 (fun k hk => by have j2 := HL3.out.size; (try simp at hk); unfold Past; omega)
 clear hv4
 clear HL3 g0 g1 g2 g3 g4 g5 g6 g7 gf h0 h1 h2 h3 h4 h5 h6 h7 hf size lt hr4 hb4
 obtain ⟨rd, g0, g1, g2, g3, g4, g5, g6, g7, gf, h0, h1, h2, h3, h4, h5, h6, h7, hf, but, size, lt⟩ := L4
 clear rd but
 obtain ⟨aa4, nn4, cc4, hvv⟩ := hvf
 subst hvv
 go_wp2_with fail
 refine bodyPost_ret (v := .agg #[.int .i64 4, .int .i64 r.pos, .int .i64 0, .int .i64 0, .int .i64 (1 + q2.2), .slice none 0 0, .slice aa4 nn4 cc4, .slice none 0 0]) (by simp [results, Tryz.results163, go_sem, g0, g1, g2, g3, g4, g5, g6, g7, h0, h1, h2, h3, h4, h5, h6, h7, gf, hf]) rfl ?_
 obtain ⟨e1, e2, e3, e4⟩ := loc_end (HL4.out.set6 _) (.int .i64 4) (.int .i64 r.pos) (.int .i64 0) (.int .i64 0) (.int .i64 (1 + q2.2)) (.slice none 0 0) (.slice aa4 nn4 cc4) (.slice none 0 0)
 exact ⟨[.int .i64 4, .int .i64 r.pos, .int .i64 0, .int .i64 0, .int .i64 (1 + q2.2), .slice none 0 0, .slice aa4 nn4 cc4, .slice none 0 0], rfl, ⟨_, _, _, rfl, partsV_nil _ _, e4 _ _ _ (rulesV_set BA_4.out _ _ (fun k hk => by unfold Past at hk; simp only; omega)), rulesV_nil _ _ _⟩, e1, e2⟩
end Go.Proofs.YtdgmoiflahoihaaGreatDoor
namespace Go.Proofs.YtdgmoiflahoihaaGreatDoor
open Go.RowKit
set_option linter.unusedSimpArgs false
set_option linter.unusedVariables false
structure Res (W w : World) (b : Nat) (s : ByteArray) (r : Rd) : Prop where
 rd : ReaderAt W b s r nilS
 h0 : W.cell? ⟨w.heap.size, 0, none⟩ = some (.int .i64 0)
 h1 : W.cell? ⟨w.heap.size, 1, none⟩ = some (.int .i64 0)
 h2 : W.cell? ⟨w.heap.size, 2, none⟩ = some (.int .i64 0)
 h3 : W.cell? ⟨w.heap.size, 3, none⟩ = some (.int .i64 0)
 h4 : W.cell? ⟨w.heap.size, 4, none⟩ = some (.int .i64 0)
 h5 : W.cell? ⟨w.heap.size, 5, none⟩ = some (.slice none 0 0)
 h6 : W.cell? ⟨w.heap.size, 6, none⟩ = some (.slice none 0 0)
 h7 : W.cell? ⟨w.heap.size, 7, none⟩ = some (.slice none 0 0)
 hf : ∀ o, W.frozen? ⟨w.heap.size, o, none⟩ = false
 but : But b w W
 size : w.heap.size + 1 ≤ W.heap.size
 lt : b < w.heap.size
theorem res_start {w : World} {b : Nat} {s : ByteArray} {r : Rd} (h : ReaderAt w b s r nilS) (t : TypeId) : Res (w.alloc (.cells #[.int .i64 0, .int .i64 0, .int .i64 0, .int .i64 0, .int .i64 0, .slice none 0 0, .slice none 0 0, .slice none 0 0] t)) w b s r := by
 have hb : b < w.heap.size := World.block_lt_of_cell? w _ h.c0
 refine ⟨readerAt_alloc h _, ?_, ?_, ?_, ?_, ?_, ?_, ?_, ?_, fun o => ?_, (But.refl b w).alloc _, by simp, hb⟩
 all_goals simp [go_sem]
theorem Res.call {W W' w : World} {b : Nat} {s : ByteArray} {r r' : Rd} (L : Res W w b s r) (hr : ReaderAt W' b s r' nilS) (hb : But b W W') : Res W' w b s r' := by
 have hs := L.size
 have hl := L.lt
 have k0 : W'.heap[w.heap.size]? = W.heap[w.heap.size]? := hb.block _ (by omega) (fun e => by cases e; omega)
 exact ⟨hr, (World.cell?_of_block (a := ⟨w.heap.size, 0, none⟩) k0).trans L.h0, (World.cell?_of_block (a := ⟨w.heap.size, 1, none⟩) k0).trans L.h1, (World.cell?_of_block (a := ⟨w.heap.size, 2, none⟩) k0).trans L.h2, (World.cell?_of_block (a := ⟨w.heap.size, 3, none⟩) k0).trans L.h3, (World.cell?_of_block (a := ⟨w.heap.size, 4, none⟩) k0).trans L.h4, (World.cell?_of_block (a := ⟨w.heap.size, 5, none⟩) k0).trans L.h5, (World.cell?_of_block (a := ⟨w.heap.size, 6, none⟩) k0).trans L.h6, (World.cell?_of_block (a := ⟨w.heap.size, 7, none⟩) k0).trans L.h7, fun o => (World.frozen?_of_block (a := ⟨w.heap.size, o, none⟩) k0).trans (L.hf o), L.but.trans hb, Nat.le_trans hs hb.size, hl⟩
theorem res_end {W w : World} {b : Nat} {s : ByteArray} {r : Rd} (L : Res W w b s r) (u0 u1 u2 u3 u4 u5 u6 u7 : Value) :
  ReaderAt (((((((((W).setCell ⟨w.heap.size, 0, none⟩ u0).setCell ⟨w.heap.size, 1, none⟩ u1).setCell ⟨w.heap.size, 2, none⟩ u2).setCell ⟨w.heap.size, 3, none⟩ u3).setCell ⟨w.heap.size, 4, none⟩ u4).setCell ⟨w.heap.size, 5, none⟩ u5).setCell ⟨w.heap.size, 6, none⟩ u6).setCell ⟨w.heap.size, 7, none⟩ u7) b s r nilS ∧ But b w (((((((((W).setCell ⟨w.heap.size, 0, none⟩ u0).setCell ⟨w.heap.size, 1, none⟩ u1).setCell ⟨w.heap.size, 2, none⟩ u2).setCell ⟨w.heap.size, 3, none⟩ u3).setCell ⟨w.heap.size, 4, none⟩ u4).setCell ⟨w.heap.size, 5, none⟩ u5).setCell ⟨w.heap.size, 6, none⟩ u6).setCell ⟨w.heap.size, 7, none⟩ u7) ∧
  (∀ n cs q, RuleV n W (fun k => w.heap.size + 1 ≤ k) cs q → RuleV n (((((((((W).setCell ⟨w.heap.size, 0, none⟩ u0).setCell ⟨w.heap.size, 1, none⟩ u1).setCell ⟨w.heap.size, 2, none⟩ u2).setCell ⟨w.heap.size, 3, none⟩ u3).setCell ⟨w.heap.size, 4, none⟩ u4).setCell ⟨w.heap.size, 5, none⟩ u5).setCell ⟨w.heap.size, 6, none⟩ u6).setCell ⟨w.heap.size, 7, none⟩ u7) (fun k => w.heap.size ≤ k) cs q) := by
 have hl := L.lt
 have hk : ∀ k, w.heap.size + 1 ≤ k → k < W.heap.size → w.heap.size ≤ k ∧ (((((((((W).setCell ⟨w.heap.size, 0, none⟩ u0).setCell ⟨w.heap.size, 1, none⟩ u1).setCell ⟨w.heap.size, 2, none⟩ u2).setCell ⟨w.heap.size, 3, none⟩ u3).setCell ⟨w.heap.size, 4, none⟩ u4).setCell ⟨w.heap.size, 5, none⟩ u5).setCell ⟨w.heap.size, 6, none⟩ u6).setCell ⟨w.heap.size, 7, none⟩ u7).heap[k]? = W.heap[k]? := by
  intro k hk _
  refine ⟨by omega, ?_⟩
  repeat rw [Below.heap_setCell _ _ _ _ (by simp only; omega)]
 refine ⟨?_, ?_, fun n cs q h => ruleV_frame h hk⟩
 ·repeat (refine readerAt_set ?_ _ _ (by simp only; omega))
  exact L.rd
 ·repeat (refine But.setNew ?_ _ _ (by simp))
  exact L.but
theorem seesOne_but (b : Nat) (s : ByteArray) (r : Rd) (pv : Value) (c d : UInt8) (w : World) (h : ReaderAt w b s r pv) (hs : s.size ≤ 400) (hp : r.pos ≤ s.size) :
  Calls Tryz.prog 155 #[.pointer (some ⟨b, 0, none⟩), .int .u8 c.toNat, .int .u8 d.toNat] w fun e w' => e = .returned (.bool (r.seesOne s.data.toList c d)) ∧ ReaderAt w' b s r pv ∧ But b w w' := by
 refine (seesOne_any b s r pv c d w h hs hp).mono ?_
 rintro e w' ⟨rfl, n, rfl⟩
 exact ⟨rfl, h.drewN n, (But.refl b _).drewN n⟩
set_option maxHeartbeats 1000000 in
theorem rule_give (s : ByteArray) (hs : s.size ≤ 400) (b : Nat) (r : Rd) (w : World) (h : ReaderAt w b s r nilS) (f : FitB s.data.toList r) (n : Nat) (hB : BlkCalls s n) (hn : 8 ≤ r.depth + n) (t0 : r.seesOne s.data.toList 97 122 = true) :
  Calls Tryz.prog 120 #[.pointer (some ⟨b, 0, none⟩)] w fun e w' => ∃ cs, e = .returned (.agg cs.toArray) ∧ RuleV n w' (fun k => w.heap.size ≤ k) cs (ruleF s.data.toList n r).2 ∧ ReaderAt w' b s (ruleF s.data.toList n r).1 nilS ∧ But b w w' := by
 have hsl : s.data.toList.length = s.size := by simp
 have p0 : r.pos ≤ s.size := by have := f.le; omega
 have HB : Hid (BlkCalls s n) := hB
 have HH : Hid (ReaderAt w b s r nilS) := h
 have hb : b < w.heap.size := World.block_lt_of_cell? w _ h.c0
 have hbn : ¬ b = w.heap.size := by omega
 clear hB h
 go_enter Tryz.func120, Tryz.ntmps120
 go_wp2_with fail
 refine (seesOne_but b s r nilS 97 122 _ (res_start HH.out _).rd hs p0).mono ?_
 rw [t0]
 rintro e w1 ⟨rfl, hr1, hb1⟩
 have L1 := (res_start HH.out _).call hr1 hb1
 have HL1 : Hid _ := L1
 clear hr1 hb1
 obtain ⟨rd, h0, h1, h2, h3, h4, h5, h6, h7, hf, but, size, lt⟩ := L1
 clear rd but
 go_wp2_with fail
 refine (giveRule_any s hs b r _ HL1.out.rd f n t0).mono ?_
 rintro e w2 ⟨cs, rfl, hru, hr2, hb2⟩
 have L2 := HL1.out.call hr2 hb2
 have HL2 : Hid _ := L2
 have hru2 : RuleV n w2 (fun k => w.heap.size + 1 ≤ k) cs (ruleF s.data.toList n r).2 := ruleV_frame hru (fun k hk _ => ⟨by have j2 := HL1.out.size; (try simp at hk); omega, rfl⟩)
 clear hru
 generalize hq : (ruleF s.data.toList n r).2 = rule at *
 have HQ : Hid ((ruleF s.data.toList n r).2 = rule) := hq
 clear hq
 have HRU : Hid _ := hru2
 obtain ⟨ve, va, vb, hcs, hpe, hra, hrb⟩ := hru2
 subst hcs
 obtain ⟨ae, ne, ce, hve⟩ : ∃ aa nn cc, ve = .slice aa nn cc := by
  rcases Joins.ownsRow_forms hpe.1 with ⟨rfl, _⟩ | ⟨g, cap, rfl⟩ <;> exact ⟨_, _, _, rfl⟩
 obtain ⟨aa, na, ca, hva⟩ := rulesV_form hra
 obtain ⟨ab, nb, cb, hvb⟩ := rulesV_form hrb
 subst hve hva hvb
 clear hpe hra hrb
 clear HL1 h0 h1 h2 h3 h4 h5 h6 h7 hf size lt hr2 hb2
 obtain ⟨rd, h0, h1, h2, h3, h4, h5, h6, h7, hf, but, size, lt⟩ := L2
 clear rd but
 simp only [coreV, List.cons_append, List.nil_append]
 go_wp2_with fail
 refine bodyPost_ret (v := .agg #[.int .i64 rule.1.kind, .int .i64 rule.1.place, .int .i64 rule.1.name, .int .i64 rule.1.label, .int .i64 rule.1.count, .slice ae ne ce, .slice aa na ca, .slice ab nb cb]) (by simp [results, Tryz.results120, go_sem, h0, h1, h2, h3, h4, h5, h6, h7, hf]) rfl ?_
 obtain ⟨e1, e2, e3⟩ := res_end HL2.out (.int .i64 rule.1.kind) (.int .i64 rule.1.place) (.int .i64 rule.1.name) (.int .i64 rule.1.label) (.int .i64 rule.1.count) (.slice ae ne ce) (.slice aa na ca) (.slice ab nb cb)
 rw [HQ.out]
 exact ⟨[.int .i64 rule.1.kind, .int .i64 rule.1.place, .int .i64 rule.1.name, .int .i64 rule.1.label, .int .i64 rule.1.count, .slice ae ne ce, .slice aa na ca, .slice ab nb cb], rfl, e3 _ _ _ HRU.out, e1, e2⟩
set_option maxHeartbeats 1000000 in
theorem rule_open (s : ByteArray) (hs : s.size ≤ 400) (b : Nat) (r : Rd) (w : World) (h : ReaderAt w b s r nilS) (f : FitB s.data.toList r) (n : Nat) (hB : BlkCalls s n) (hn : 8 ≤ r.depth + n) (t0 : r.seesOne s.data.toList 97 122 = false) (t1 : r.seesOne s.data.toList 94 94 = true) :
  Calls Tryz.prog 120 #[.pointer (some ⟨b, 0, none⟩)] w fun e w' => ∃ cs, e = .returned (.agg cs.toArray) ∧ RuleV n w' (fun k => w.heap.size ≤ k) cs (ruleF s.data.toList n r).2 ∧ ReaderAt w' b s (ruleF s.data.toList n r).1 nilS ∧ But b w w' := by
 have hsl : s.data.toList.length = s.size := by simp
 have p0 : r.pos ≤ s.size := by have := f.le; omega
 have HB : Hid (BlkCalls s n) := hB
 have HH : Hid (ReaderAt w b s r nilS) := h
 have hb : b < w.heap.size := World.block_lt_of_cell? w _ h.c0
 have hbn : ¬ b = w.heap.size := by omega
 clear hB h
 go_enter Tryz.func120, Tryz.ntmps120
 go_wp2_with fail
 refine (seesOne_but b s r nilS 97 122 _ (res_start HH.out _).rd hs p0).mono ?_
 rw [t0]
 rintro e w1 ⟨rfl, hr1, hb1⟩
 have L1 := (res_start HH.out _).call hr1 hb1
 have HL1 : Hid _ := L1
 clear hr1 hb1
 obtain ⟨rd, h0, h1, h2, h3, h4, h5, h6, h7, hf, but, size, lt⟩ := L1
 clear rd but
 go_wp2_with fail
 refine (sees_but b s r nilS 94 _ HL1.out.rd hs p0).mono ?_
 rw [t1]
 rintro e w2 ⟨rfl, hr2, hb2⟩
 have L2 := HL1.out.call hr2 hb2
 have HL2 : Hid _ := L2
 clear HL1 h0 h1 h2 h3 h4 h5 h6 h7 hf size lt
 clear hr2 hb2
 obtain ⟨rd, h0, h1, h2, h3, h4, h5, h6, h7, hf, but, size, lt⟩ := L2
 clear rd but
 go_wp2_with fail
 refine (openRule_any s hs b r _ HL2.out.rd f n t0 t1).mono ?_
 rintro e w3 ⟨cs, rfl, hru, hr3, hb3⟩
 have L3 := HL2.out.call hr3 hb3
 have HL3 : Hid _ := L3
 have hru2 : RuleV n w3 (fun k => w.heap.size + 1 ≤ k) cs (ruleF s.data.toList n r).2 := ruleV_frame hru (fun k hk _ => ⟨by have j2 := HL2.out.size; (try simp at hk); omega, rfl⟩)
 clear hru
 generalize hq : (ruleF s.data.toList n r).2 = rule at *
 have HQ : Hid ((ruleF s.data.toList n r).2 = rule) := hq
 clear hq
 have HRU : Hid _ := hru2
 obtain ⟨ve, va, vb, hcs, hpe, hra, hrb⟩ := hru2
 subst hcs
 obtain ⟨ae, ne, ce, hve⟩ : ∃ aa nn cc, ve = .slice aa nn cc := by
  rcases Joins.ownsRow_forms hpe.1 with ⟨rfl, _⟩ | ⟨g, cap, rfl⟩ <;> exact ⟨_, _, _, rfl⟩
 obtain ⟨aa, na, ca, hva⟩ := rulesV_form hra
 obtain ⟨ab, nb, cb, hvb⟩ := rulesV_form hrb
 subst hve hva hvb
 clear hpe hra hrb
 clear HL2 h0 h1 h2 h3 h4 h5 h6 h7 hf size lt hr3 hb3
 obtain ⟨rd, h0, h1, h2, h3, h4, h5, h6, h7, hf, but, size, lt⟩ := L3
 clear rd but
 simp only [coreV, List.cons_append, List.nil_append]
 go_wp2_with fail
 refine bodyPost_ret (v := .agg #[.int .i64 rule.1.kind, .int .i64 rule.1.place, .int .i64 rule.1.name, .int .i64 rule.1.label, .int .i64 rule.1.count, .slice ae ne ce, .slice aa na ca, .slice ab nb cb]) (by simp [results, Tryz.results120, go_sem, h0, h1, h2, h3, h4, h5, h6, h7, hf]) rfl ?_
 obtain ⟨e1, e2, e3⟩ := res_end HL3.out (.int .i64 rule.1.kind) (.int .i64 rule.1.place) (.int .i64 rule.1.name) (.int .i64 rule.1.label) (.int .i64 rule.1.count) (.slice ae ne ce) (.slice aa na ca) (.slice ab nb cb)
 rw [HQ.out]
 exact ⟨[.int .i64 rule.1.kind, .int .i64 rule.1.place, .int .i64 rule.1.name, .int .i64 rule.1.label, .int .i64 rule.1.count, .slice ae ne ce, .slice aa na ca, .slice ab nb cb], rfl, e3 _ _ _ HRU.out, e1, e2⟩
set_option maxHeartbeats 1000000 in
theorem rule_tell (s : ByteArray) (hs : s.size ≤ 400) (b : Nat) (r : Rd) (w : World) (h : ReaderAt w b s r nilS) (f : FitB s.data.toList r) (n : Nat) (hB : BlkCalls s n) (hn : 8 ≤ r.depth + n) (t0 : r.seesOne s.data.toList 97 122 = false) (t1 : r.seesOne s.data.toList 94 94 = false) (t2 : r.seesOne s.data.toList 62 62 = true) :
  Calls Tryz.prog 120 #[.pointer (some ⟨b, 0, none⟩)] w fun e w' => ∃ cs, e = .returned (.agg cs.toArray) ∧ RuleV n w' (fun k => w.heap.size ≤ k) cs (ruleF s.data.toList n r).2 ∧ ReaderAt w' b s (ruleF s.data.toList n r).1 nilS ∧ But b w w' := by
 have hsl : s.data.toList.length = s.size := by simp
 have p0 : r.pos ≤ s.size := by have := f.le; omega
 have HB : Hid (BlkCalls s n) := hB
 have HH : Hid (ReaderAt w b s r nilS) := h
 have hb : b < w.heap.size := World.block_lt_of_cell? w _ h.c0
 have hbn : ¬ b = w.heap.size := by omega
 clear hB h
 go_enter Tryz.func120, Tryz.ntmps120
 go_wp2_with fail
 refine (seesOne_but b s r nilS 97 122 _ (res_start HH.out _).rd hs p0).mono ?_
 rw [t0]
 rintro e w1 ⟨rfl, hr1, hb1⟩
 have L1 := (res_start HH.out _).call hr1 hb1
 have HL1 : Hid _ := L1
 clear hr1 hb1
 obtain ⟨rd, h0, h1, h2, h3, h4, h5, h6, h7, hf, but, size, lt⟩ := L1
 clear rd but
 go_wp2_with fail
 refine (sees_but b s r nilS 94 _ HL1.out.rd hs p0).mono ?_
 rw [t1]
 rintro e w2 ⟨rfl, hr2, hb2⟩
 have L2 := HL1.out.call hr2 hb2
 have HL2 : Hid _ := L2
 clear HL1 h0 h1 h2 h3 h4 h5 h6 h7 hf size lt
 clear hr2 hb2
 obtain ⟨rd, h0, h1, h2, h3, h4, h5, h6, h7, hf, but, size, lt⟩ := L2
 clear rd but
 go_wp2_with fail
 refine (sees_but b s r nilS 62 _ HL2.out.rd hs p0).mono ?_
 rw [t2]
 rintro e w3 ⟨rfl, hr3, hb3⟩
 have L3 := HL2.out.call hr3 hb3
 have HL3 : Hid _ := L3
 clear HL2 h0 h1 h2 h3 h4 h5 h6 h7 hf size lt
 clear hr3 hb3
 obtain ⟨rd, h0, h1, h2, h3, h4, h5, h6, h7, hf, but, size, lt⟩ := L3
 clear rd but
 go_wp2_with fail
 refine (tellRule_any s hs b r _ HL3.out.rd f n t0 t1 t2).mono ?_
 rintro e w4 ⟨cs, rfl, hru, hr4, hb4⟩
 have L4 := HL3.out.call hr4 hb4
 have HL4 : Hid _ := L4
 have hru2 : RuleV n w4 (fun k => w.heap.size + 1 ≤ k) cs (ruleF s.data.toList n r).2 := ruleV_frame hru (fun k hk _ => ⟨by have j2 := HL3.out.size; (try simp at hk); omega, rfl⟩)
 clear hru
 generalize hq : (ruleF s.data.toList n r).2 = rule at *
 have HQ : Hid ((ruleF s.data.toList n r).2 = rule) := hq
 clear hq
 have HRU : Hid _ := hru2
 obtain ⟨ve, va, vb, hcs, hpe, hra, hrb⟩ := hru2
 subst hcs
 obtain ⟨ae, ne, ce, hve⟩ : ∃ aa nn cc, ve = .slice aa nn cc := by
  rcases Joins.ownsRow_forms hpe.1 with ⟨rfl, _⟩ | ⟨g, cap, rfl⟩ <;> exact ⟨_, _, _, rfl⟩
 obtain ⟨aa, na, ca, hva⟩ := rulesV_form hra
 obtain ⟨ab, nb, cb, hvb⟩ := rulesV_form hrb
 subst hve hva hvb
 clear hpe hra hrb
 clear HL3 h0 h1 h2 h3 h4 h5 h6 h7 hf size lt hr4 hb4
 obtain ⟨rd, h0, h1, h2, h3, h4, h5, h6, h7, hf, but, size, lt⟩ := L4
 clear rd but
 simp only [coreV, List.cons_append, List.nil_append]
 go_wp2_with fail
 refine bodyPost_ret (v := .agg #[.int .i64 rule.1.kind, .int .i64 rule.1.place, .int .i64 rule.1.name, .int .i64 rule.1.label, .int .i64 rule.1.count, .slice ae ne ce, .slice aa na ca, .slice ab nb cb]) (by simp [results, Tryz.results120, go_sem, h0, h1, h2, h3, h4, h5, h6, h7, hf]) rfl ?_
 obtain ⟨e1, e2, e3⟩ := res_end HL4.out (.int .i64 rule.1.kind) (.int .i64 rule.1.place) (.int .i64 rule.1.name) (.int .i64 rule.1.label) (.int .i64 rule.1.count) (.slice ae ne ce) (.slice aa na ca) (.slice ab nb cb)
 rw [HQ.out]
 exact ⟨[.int .i64 rule.1.kind, .int .i64 rule.1.place, .int .i64 rule.1.name, .int .i64 rule.1.label, .int .i64 rule.1.count, .slice ae ne ce, .slice aa na ca, .slice ab nb cb], rfl, e3 _ _ _ HRU.out, e1, e2⟩
set_option maxHeartbeats 1000000 in
theorem rule_cond1 (s : ByteArray) (hs : s.size ≤ 400) (b : Nat) (r : Rd) (w : World) (h : ReaderAt w b s r nilS) (f : FitB s.data.toList r) (n : Nat) (hB : BlkCalls s n) (hn : 8 ≤ r.depth + n) (t0 : r.seesOne s.data.toList 97 122 = false) (t1 : r.seesOne s.data.toList 94 94 = false) (t2 : r.seesOne s.data.toList 62 62 = false) (t3 : r.seesOne s.data.toList 40 40 = true) (hsec : (blockF s.data.toList n ((exprU s.data.toList (r.opening s.data.toList 40)).1.closing s.data.toList 41)).1.seesOne s.data.toList 123 123 = false) :
  Calls Tryz.prog 120 #[.pointer (some ⟨b, 0, none⟩)] w fun e w' => ∃ cs, e = .returned (.agg cs.toArray) ∧ RuleV n w' (fun k => w.heap.size ≤ k) cs (ruleF s.data.toList n r).2 ∧ ReaderAt w' b s (ruleF s.data.toList n r).1 nilS ∧ But b w w' := by
 have hsl : s.data.toList.length = s.size := by simp
 have p0 : r.pos ≤ s.size := by have := f.le; omega
 have HB : Hid (BlkCalls s n) := hB
 have HH : Hid (ReaderAt w b s r nilS) := h
 have hb : b < w.heap.size := World.block_lt_of_cell? w _ h.c0
 have hbn : ¬ b = w.heap.size := by omega
 clear hB h
 go_enter Tryz.func120, Tryz.ntmps120
 go_wp2_with fail
 refine (seesOne_but b s r nilS 97 122 _ (res_start HH.out _).rd hs p0).mono ?_
 rw [t0]
 rintro e w1 ⟨rfl, hr1, hb1⟩
 have L1 := (res_start HH.out _).call hr1 hb1
 have HL1 : Hid _ := L1
 clear hr1 hb1
 obtain ⟨rd, h0, h1, h2, h3, h4, h5, h6, h7, hf, but, size, lt⟩ := L1
 clear rd but
 go_wp2_with fail
 refine (sees_but b s r nilS 94 _ HL1.out.rd hs p0).mono ?_
 rw [t1]
 rintro e w2 ⟨rfl, hr2, hb2⟩
 have L2 := HL1.out.call hr2 hb2
 have HL2 : Hid _ := L2
 clear HL1 h0 h1 h2 h3 h4 h5 h6 h7 hf size lt
 clear hr2 hb2
 obtain ⟨rd, h0, h1, h2, h3, h4, h5, h6, h7, hf, but, size, lt⟩ := L2
 clear rd but
 go_wp2_with fail
 refine (sees_but b s r nilS 62 _ HL2.out.rd hs p0).mono ?_
 rw [t2]
 rintro e w3 ⟨rfl, hr3, hb3⟩
 have L3 := HL2.out.call hr3 hb3
 have HL3 : Hid _ := L3
 clear HL2 h0 h1 h2 h3 h4 h5 h6 h7 hf size lt
 clear hr3 hb3
 obtain ⟨rd, h0, h1, h2, h3, h4, h5, h6, h7, hf, but, size, lt⟩ := L3
 clear rd but
 go_wp2_with fail
 refine (sees_but b s r nilS 40 _ HL3.out.rd hs p0).mono ?_
 rw [t3]
 rintro e w4 ⟨rfl, hr4, hb4⟩
 have L4 := HL3.out.call hr4 hb4
 have HL4 : Hid _ := L4
 clear HL3 h0 h1 h2 h3 h4 h5 h6 h7 hf size lt
 clear hr4 hb4
 obtain ⟨rd, h0, h1, h2, h3, h4, h5, h6, h7, hf, but, size, lt⟩ := L4
 clear rd but
 go_wp2_with fail
 refine (condRule1_any s hs b r _ HL4.out.rd f n HB.out hn t0 t1 t2 t3 hsec).mono ?_
 rintro e w5 ⟨cs, rfl, hru, hr5, hb5⟩
 have L5 := HL4.out.call hr5 hb5
 have HL5 : Hid _ := L5
 have hru2 : RuleV n w5 (fun k => w.heap.size + 1 ≤ k) cs (ruleF s.data.toList n r).2 := ruleV_frame hru (fun k hk _ => ⟨by have j2 := HL4.out.size; (try simp at hk); omega, rfl⟩)
 clear hru
 generalize hq : (ruleF s.data.toList n r).2 = rule at *
 have HQ : Hid ((ruleF s.data.toList n r).2 = rule) := hq
 clear hq
 have HRU : Hid _ := hru2
 obtain ⟨ve, va, vb, hcs, hpe, hra, hrb⟩ := hru2
 subst hcs
 obtain ⟨ae, ne, ce, hve⟩ : ∃ aa nn cc, ve = .slice aa nn cc := by
  rcases Joins.ownsRow_forms hpe.1 with ⟨rfl, _⟩ | ⟨g, cap, rfl⟩ <;> exact ⟨_, _, _, rfl⟩
 obtain ⟨aa, na, ca, hva⟩ := rulesV_form hra
 obtain ⟨ab, nb, cb, hvb⟩ := rulesV_form hrb
 subst hve hva hvb
 clear hpe hra hrb
 clear HL4 h0 h1 h2 h3 h4 h5 h6 h7 hf size lt hr5 hb5
 obtain ⟨rd, h0, h1, h2, h3, h4, h5, h6, h7, hf, but, size, lt⟩ := L5
 clear rd but
 simp only [coreV, List.cons_append, List.nil_append]
 go_wp2_with fail
 refine bodyPost_ret (v := .agg #[.int .i64 rule.1.kind, .int .i64 rule.1.place, .int .i64 rule.1.name, .int .i64 rule.1.label, .int .i64 rule.1.count, .slice ae ne ce, .slice aa na ca, .slice ab nb cb]) (by simp [results, Tryz.results120, go_sem, h0, h1, h2, h3, h4, h5, h6, h7, hf]) rfl ?_
 obtain ⟨e1, e2, e3⟩ := res_end HL5.out (.int .i64 rule.1.kind) (.int .i64 rule.1.place) (.int .i64 rule.1.name) (.int .i64 rule.1.label) (.int .i64 rule.1.count) (.slice ae ne ce) (.slice aa na ca) (.slice ab nb cb)
 rw [HQ.out]
 exact ⟨[.int .i64 rule.1.kind, .int .i64 rule.1.place, .int .i64 rule.1.name, .int .i64 rule.1.label, .int .i64 rule.1.count, .slice ae ne ce, .slice aa na ca, .slice ab nb cb], rfl, e3 _ _ _ HRU.out, e1, e2⟩
set_option maxHeartbeats 1000000 in
theorem rule_cond2 (s : ByteArray) (hs : s.size ≤ 400) (b : Nat) (r : Rd) (w : World) (h : ReaderAt w b s r nilS) (f : FitB s.data.toList r) (n : Nat) (hB : BlkCalls s n) (hn : 8 ≤ r.depth + n) (t0 : r.seesOne s.data.toList 97 122 = false) (t1 : r.seesOne s.data.toList 94 94 = false) (t2 : r.seesOne s.data.toList 62 62 = false) (t3 : r.seesOne s.data.toList 40 40 = true) (hsec : (blockF s.data.toList n ((exprU s.data.toList (r.opening s.data.toList 40)).1.closing s.data.toList 41)).1.seesOne s.data.toList 123 123 = true) :
  Calls Tryz.prog 120 #[.pointer (some ⟨b, 0, none⟩)] w fun e w' => ∃ cs, e = .returned (.agg cs.toArray) ∧ RuleV n w' (fun k => w.heap.size ≤ k) cs (ruleF s.data.toList n r).2 ∧ ReaderAt w' b s (ruleF s.data.toList n r).1 nilS ∧ But b w w' := by
 have hsl : s.data.toList.length = s.size := by simp
 have p0 : r.pos ≤ s.size := by have := f.le; omega
 have HB : Hid (BlkCalls s n) := hB
 have HH : Hid (ReaderAt w b s r nilS) := h
 have hb : b < w.heap.size := World.block_lt_of_cell? w _ h.c0
 have hbn : ¬ b = w.heap.size := by omega
 clear hB h
 go_enter Tryz.func120, Tryz.ntmps120
 go_wp2_with fail
 refine (seesOne_but b s r nilS 97 122 _ (res_start HH.out _).rd hs p0).mono ?_
 rw [t0]
 rintro e w1 ⟨rfl, hr1, hb1⟩
 have L1 := (res_start HH.out _).call hr1 hb1
 have HL1 : Hid _ := L1
 clear hr1 hb1
 obtain ⟨rd, h0, h1, h2, h3, h4, h5, h6, h7, hf, but, size, lt⟩ := L1
 clear rd but
 go_wp2_with fail
 refine (sees_but b s r nilS 94 _ HL1.out.rd hs p0).mono ?_
 rw [t1]
 rintro e w2 ⟨rfl, hr2, hb2⟩
 have L2 := HL1.out.call hr2 hb2
 have HL2 : Hid _ := L2
 clear HL1 h0 h1 h2 h3 h4 h5 h6 h7 hf size lt
 clear hr2 hb2
 obtain ⟨rd, h0, h1, h2, h3, h4, h5, h6, h7, hf, but, size, lt⟩ := L2
 clear rd but
 go_wp2_with fail
 refine (sees_but b s r nilS 62 _ HL2.out.rd hs p0).mono ?_
 rw [t2]
 rintro e w3 ⟨rfl, hr3, hb3⟩
 have L3 := HL2.out.call hr3 hb3
 have HL3 : Hid _ := L3
 clear HL2 h0 h1 h2 h3 h4 h5 h6 h7 hf size lt
 clear hr3 hb3
 obtain ⟨rd, h0, h1, h2, h3, h4, h5, h6, h7, hf, but, size, lt⟩ := L3
 clear rd but
 go_wp2_with fail
 refine (sees_but b s r nilS 40 _ HL3.out.rd hs p0).mono ?_
 rw [t3]
 rintro e w4 ⟨rfl, hr4, hb4⟩
 have L4 := HL3.out.call hr4 hb4
 have HL4 : Hid _ := L4
 clear HL3 h0 h1 h2 h3 h4 h5 h6 h7 hf size lt
 clear hr4 hb4
 obtain ⟨rd, h0, h1, h2, h3, h4, h5, h6, h7, hf, but, size, lt⟩ := L4
 clear rd but
 go_wp2_with fail
 refine (condRule2_any s hs b r _ HL4.out.rd f n HB.out hn t0 t1 t2 t3 hsec).mono ?_
 rintro e w5 ⟨cs, rfl, hru, hr5, hb5⟩
 have L5 := HL4.out.call hr5 hb5
 have HL5 : Hid _ := L5
 have hru2 : RuleV n w5 (fun k => w.heap.size + 1 ≤ k) cs (ruleF s.data.toList n r).2 := ruleV_frame hru (fun k hk _ => ⟨by have j2 := HL4.out.size; (try simp at hk); omega, rfl⟩)
 clear hru
 generalize hq : (ruleF s.data.toList n r).2 = rule at *
 have HQ : Hid ((ruleF s.data.toList n r).2 = rule) := hq
 clear hq
 have HRU : Hid _ := hru2
 obtain ⟨ve, va, vb, hcs, hpe, hra, hrb⟩ := hru2
 subst hcs
 obtain ⟨ae, ne, ce, hve⟩ : ∃ aa nn cc, ve = .slice aa nn cc := by
  rcases Joins.ownsRow_forms hpe.1 with ⟨rfl, _⟩ | ⟨g, cap, rfl⟩ <;> exact ⟨_, _, _, rfl⟩
 obtain ⟨aa, na, ca, hva⟩ := rulesV_form hra
 obtain ⟨ab, nb, cb, hvb⟩ := rulesV_form hrb
 subst hve hva hvb
 clear hpe hra hrb
 clear HL4 h0 h1 h2 h3 h4 h5 h6 h7 hf size lt hr5 hb5
 obtain ⟨rd, h0, h1, h2, h3, h4, h5, h6, h7, hf, but, size, lt⟩ := L5
 clear rd but
 simp only [coreV, List.cons_append, List.nil_append]
 go_wp2_with fail
 refine bodyPost_ret (v := .agg #[.int .i64 rule.1.kind, .int .i64 rule.1.place, .int .i64 rule.1.name, .int .i64 rule.1.label, .int .i64 rule.1.count, .slice ae ne ce, .slice aa na ca, .slice ab nb cb]) (by simp [results, Tryz.results120, go_sem, h0, h1, h2, h3, h4, h5, h6, h7, hf]) rfl ?_
 obtain ⟨e1, e2, e3⟩ := res_end HL5.out (.int .i64 rule.1.kind) (.int .i64 rule.1.place) (.int .i64 rule.1.name) (.int .i64 rule.1.label) (.int .i64 rule.1.count) (.slice ae ne ce) (.slice aa na ca) (.slice ab nb cb)
 rw [HQ.out]
 exact ⟨[.int .i64 rule.1.kind, .int .i64 rule.1.place, .int .i64 rule.1.name, .int .i64 rule.1.label, .int .i64 rule.1.count, .slice ae ne ce, .slice aa na ca, .slice ab nb cb], rfl, e3 _ _ _ HRU.out, e1, e2⟩
set_option maxHeartbeats 1000000 in
theorem rule_loop (s : ByteArray) (hs : s.size ≤ 400) (b : Nat) (r : Rd) (w : World) (h : ReaderAt w b s r nilS) (f : FitB s.data.toList r) (n : Nat) (hB : BlkCalls s n) (hn : 8 ≤ r.depth + n) (t0 : r.seesOne s.data.toList 97 122 = false) (t1 : r.seesOne s.data.toList 94 94 = false) (t2 : r.seesOne s.data.toList 62 62 = false) (t3 : r.seesOne s.data.toList 40 40 = false) (t4 : r.seesOne s.data.toList 42 42 = true) :
  Calls Tryz.prog 120 #[.pointer (some ⟨b, 0, none⟩)] w fun e w' => ∃ cs, e = .returned (.agg cs.toArray) ∧ RuleV n w' (fun k => w.heap.size ≤ k) cs (ruleF s.data.toList n r).2 ∧ ReaderAt w' b s (ruleF s.data.toList n r).1 nilS ∧ But b w w' := by
 have hsl : s.data.toList.length = s.size := by simp
 have p0 : r.pos ≤ s.size := by have := f.le; omega
 have HB : Hid (BlkCalls s n) := hB
 have HH : Hid (ReaderAt w b s r nilS) := h
 have hb : b < w.heap.size := World.block_lt_of_cell? w _ h.c0
 have hbn : ¬ b = w.heap.size := by omega
 clear hB h
 go_enter Tryz.func120, Tryz.ntmps120
 go_wp2_with fail
 refine (seesOne_but b s r nilS 97 122 _ (res_start HH.out _).rd hs p0).mono ?_
 rw [t0]
 rintro e w1 ⟨rfl, hr1, hb1⟩
 have L1 := (res_start HH.out _).call hr1 hb1
 have HL1 : Hid _ := L1
 clear hr1 hb1
 obtain ⟨rd, h0, h1, h2, h3, h4, h5, h6, h7, hf, but, size, lt⟩ := L1
 clear rd but
 go_wp2_with fail
 refine (sees_but b s r nilS 94 _ HL1.out.rd hs p0).mono ?_
 rw [t1]
 rintro e w2 ⟨rfl, hr2, hb2⟩
 have L2 := HL1.out.call hr2 hb2
 have HL2 : Hid _ := L2
 clear HL1 h0 h1 h2 h3 h4 h5 h6 h7 hf size lt
 clear hr2 hb2
 obtain ⟨rd, h0, h1, h2, h3, h4, h5, h6, h7, hf, but, size, lt⟩ := L2
 clear rd but
 go_wp2_with fail
 refine (sees_but b s r nilS 62 _ HL2.out.rd hs p0).mono ?_
 rw [t2]
 rintro e w3 ⟨rfl, hr3, hb3⟩
 have L3 := HL2.out.call hr3 hb3
 have HL3 : Hid _ := L3
 clear HL2 h0 h1 h2 h3 h4 h5 h6 h7 hf size lt
 clear hr3 hb3
 obtain ⟨rd, h0, h1, h2, h3, h4, h5, h6, h7, hf, but, size, lt⟩ := L3
 clear rd but
 go_wp2_with fail
 refine (sees_but b s r nilS 40 _ HL3.out.rd hs p0).mono ?_
 rw [t3]
 rintro e w4 ⟨rfl, hr4, hb4⟩
 have L4 := HL3.out.call hr4 hb4
 have HL4 : Hid _ := L4
 clear HL3 h0 h1 h2 h3 h4 h5 h6 h7 hf size lt
 clear hr4 hb4
 obtain ⟨rd, h0, h1, h2, h3, h4, h5, h6, h7, hf, but, size, lt⟩ := L4
 clear rd but
 go_wp2_with fail
 refine (sees_but b s r nilS 42 _ HL4.out.rd hs p0).mono ?_
 rw [t4]
 rintro e w5 ⟨rfl, hr5, hb5⟩
 have L5 := HL4.out.call hr5 hb5
 have HL5 : Hid _ := L5
 clear HL4 h0 h1 h2 h3 h4 h5 h6 h7 hf size lt
 clear hr5 hb5
 obtain ⟨rd, h0, h1, h2, h3, h4, h5, h6, h7, hf, but, size, lt⟩ := L5
 clear rd but
 go_wp2_with fail
 refine (loopRule_any s hs b r _ HL5.out.rd f n HB.out hn t0 t1 t2 t3 t4).mono ?_
 rintro e w6 ⟨cs, rfl, hru, hr6, hb6⟩
 have L6 := HL5.out.call hr6 hb6
 have HL6 : Hid _ := L6
 have hru2 : RuleV n w6 (fun k => w.heap.size + 1 ≤ k) cs (ruleF s.data.toList n r).2 := ruleV_frame hru (fun k hk _ => ⟨by have j2 := HL5.out.size; (try simp at hk); omega, rfl⟩)
 clear hru
 generalize hq : (ruleF s.data.toList n r).2 = rule at *
 have HQ : Hid ((ruleF s.data.toList n r).2 = rule) := hq
 clear hq
 have HRU : Hid _ := hru2
 obtain ⟨ve, va, vb, hcs, hpe, hra, hrb⟩ := hru2
 subst hcs
 obtain ⟨ae, ne, ce, hve⟩ : ∃ aa nn cc, ve = .slice aa nn cc := by
  rcases Joins.ownsRow_forms hpe.1 with ⟨rfl, _⟩ | ⟨g, cap, rfl⟩ <;> exact ⟨_, _, _, rfl⟩
 obtain ⟨aa, na, ca, hva⟩ := rulesV_form hra
 obtain ⟨ab, nb, cb, hvb⟩ := rulesV_form hrb
 subst hve hva hvb
 clear hpe hra hrb
 clear HL5 h0 h1 h2 h3 h4 h5 h6 h7 hf size lt hr6 hb6
 obtain ⟨rd, h0, h1, h2, h3, h4, h5, h6, h7, hf, but, size, lt⟩ := L6
 clear rd but
 simp only [coreV, List.cons_append, List.nil_append]
 go_wp2_with fail
 refine bodyPost_ret (v := .agg #[.int .i64 rule.1.kind, .int .i64 rule.1.place, .int .i64 rule.1.name, .int .i64 rule.1.label, .int .i64 rule.1.count, .slice ae ne ce, .slice aa na ca, .slice ab nb cb]) (by simp [results, Tryz.results120, go_sem, h0, h1, h2, h3, h4, h5, h6, h7, hf]) rfl ?_
 obtain ⟨e1, e2, e3⟩ := res_end HL6.out (.int .i64 rule.1.kind) (.int .i64 rule.1.place) (.int .i64 rule.1.name) (.int .i64 rule.1.label) (.int .i64 rule.1.count) (.slice ae ne ce) (.slice aa na ca) (.slice ab nb cb)
 rw [HQ.out]
 exact ⟨[.int .i64 rule.1.kind, .int .i64 rule.1.place, .int .i64 rule.1.name, .int .i64 rule.1.label, .int .i64 rule.1.count, .slice ae ne ce, .slice aa na ca, .slice ab nb cb], rfl, e3 _ _ _ HRU.out, e1, e2⟩
set_option maxHeartbeats 1000000 in
theorem rule_none (s : ByteArray) (hs : s.size ≤ 400) (b : Nat) (r : Rd) (w : World) (h : ReaderAt w b s r nilS) (f : FitB s.data.toList r) (n : Nat) (hB : BlkCalls s n) (hn : 8 ≤ r.depth + n) (t0 : r.seesOne s.data.toList 97 122 = false) (t1 : r.seesOne s.data.toList 94 94 = false) (t2 : r.seesOne s.data.toList 62 62 = false) (t3 : r.seesOne s.data.toList 40 40 = false) (t4 : r.seesOne s.data.toList 42 42 = false) :
  Calls Tryz.prog 120 #[.pointer (some ⟨b, 0, none⟩)] w fun e w' => ∃ cs, e = .returned (.agg cs.toArray) ∧ RuleV n w' (fun k => w.heap.size ≤ k) cs (ruleF s.data.toList n r).2 ∧ ReaderAt w' b s (ruleF s.data.toList n r).1 nilS ∧ But b w w' := by
 unfold ruleF ruleU
 rw [if_neg (by rw [t0]; decide), if_neg (by rw [t1]; decide), if_neg (by rw [t2]; decide), if_neg (by rw [t3]; decide), if_neg (by rw [t4]; decide)]
 have hsl : s.data.toList.length = s.size := by simp
 have p0 : r.pos ≤ s.size := by have := f.le; omega
 have HB : Hid (BlkCalls s n) := hB
 have HH : Hid (ReaderAt w b s r nilS) := h
 have hb : b < w.heap.size := World.block_lt_of_cell? w _ h.c0
 have hbn : ¬ b = w.heap.size := by omega
 clear hB h
 go_enter Tryz.func120, Tryz.ntmps120
 go_wp2_with fail
 refine (seesOne_but b s r nilS 97 122 _ (res_start HH.out _).rd hs p0).mono ?_
 rw [t0]
 rintro e w1 ⟨rfl, hr1, hb1⟩
 have L1 := (res_start HH.out _).call hr1 hb1
 have HL1 : Hid _ := L1
 clear hr1 hb1
 obtain ⟨rd, h0, h1, h2, h3, h4, h5, h6, h7, hf, but, size, lt⟩ := L1
 clear rd but
 go_wp2_with fail
 refine (sees_but b s r nilS 94 _ HL1.out.rd hs p0).mono ?_
 rw [t1]
 rintro e w2 ⟨rfl, hr2, hb2⟩
 have L2 := HL1.out.call hr2 hb2
 have HL2 : Hid _ := L2
 clear HL1 h0 h1 h2 h3 h4 h5 h6 h7 hf size lt
 clear hr2 hb2
 obtain ⟨rd, h0, h1, h2, h3, h4, h5, h6, h7, hf, but, size, lt⟩ := L2
 clear rd but
 go_wp2_with fail
 refine (sees_but b s r nilS 62 _ HL2.out.rd hs p0).mono ?_
 rw [t2]
 rintro e w3 ⟨rfl, hr3, hb3⟩
 have L3 := HL2.out.call hr3 hb3
 have HL3 : Hid _ := L3
 clear HL2 h0 h1 h2 h3 h4 h5 h6 h7 hf size lt
 clear hr3 hb3
 obtain ⟨rd, h0, h1, h2, h3, h4, h5, h6, h7, hf, but, size, lt⟩ := L3
 clear rd but
 go_wp2_with fail
 refine (sees_but b s r nilS 40 _ HL3.out.rd hs p0).mono ?_
 rw [t3]
 rintro e w4 ⟨rfl, hr4, hb4⟩
 have L4 := HL3.out.call hr4 hb4
 have HL4 : Hid _ := L4
 clear HL3 h0 h1 h2 h3 h4 h5 h6 h7 hf size lt
 clear hr4 hb4
 obtain ⟨rd, h0, h1, h2, h3, h4, h5, h6, h7, hf, but, size, lt⟩ := L4
 clear rd but
 go_wp2_with fail
 refine (sees_but b s r nilS 42 _ HL4.out.rd hs p0).mono ?_
 rw [t4]
 rintro e w5 ⟨rfl, hr5, hb5⟩
 have L5 := HL4.out.call hr5 hb5
 have HL5 : Hid _ := L5
 clear HL4 h0 h1 h2 h3 h4 h5 h6 h7 hf size lt
 clear hr5 hb5
 obtain ⟨rd, h0, h1, h2, h3, h4, h5, h6, h7, hf, but, size, lt⟩ := L5
 clear rd but
 go_wp2_with fail
 refine (fail_any b s r nilS _ HL5.out.rd).mono ?_
 rintro e w6 ⟨rfl, hr6, hb6⟩
 have L6 := HL5.out.call hr6 hb6
 have HL6 : Hid _ := L6
 clear HL5 h0 h1 h2 h3 h4 h5 h6 h7 hf size lt
 clear hr6 hb6
 obtain ⟨rd, h0, h1, h2, h3, h4, h5, h6, h7, hf, but, size, lt⟩ := L6
 clear rd but
 go_wp2_with fail
 refine bodyPost_ret (v := .agg #[.int .i64 0, .int .i64 0, .int .i64 0, .int .i64 0, .int .i64 0, .slice none 0 0, .slice none 0 0, .slice none 0 0]) (by simp [results, Tryz.results120, go_sem, h0, h1, h2, h3, h4, h5, h6, h7, hf]) rfl ?_
 obtain ⟨e1, e2, e3⟩ := res_end HL6.out (.int .i64 0) (.int .i64 0) (.int .i64 0) (.int .i64 0) (.int .i64 0) (.slice none 0 0) (.slice none 0 0) (.slice none 0 0)
 exact ⟨[.int .i64 0, .int .i64 0, .int .i64 0, .int .i64 0, .int .i64 0, .slice none 0 0, .slice none 0 0, .slice none 0 0], rfl, ⟨_, _, _, rfl, partsV_nil _ _, rulesV_nil _ _ _, rulesV_nil _ _ _⟩, e1, e2⟩
theorem rule_rd (s : ByteArray) (hs : s.size ≤ 400) (b : Nat) (r : Rd) (w : World) (h : ReaderAt w b s r nilS) (f : FitB s.data.toList r) (n : Nat) (hB : BlkCalls s n) (hn : 8 ≤ r.depth + n) :
  Calls Tryz.prog 120 #[.pointer (some ⟨b, 0, none⟩)] w fun e w' => ∃ cs, e = .returned (.agg cs.toArray) ∧ RuleV n w' (fun k => w.heap.size ≤ k) cs (ruleF s.data.toList n r).2 ∧ ReaderAt w' b s (ruleF s.data.toList n r).1 nilS ∧ But b w w' := by
 cases t0 : r.seesOne s.data.toList 97 122
 case true => exact rule_give s hs b r w h f n hB hn t0
 cases t1 : r.seesOne s.data.toList 94 94
 case true => exact rule_open s hs b r w h f n hB hn t0 t1
 cases t2 : r.seesOne s.data.toList 62 62
 case true => exact rule_tell s hs b r w h f n hB hn t0 t1 t2
 cases t3 : r.seesOne s.data.toList 40 40
 case true =>
  cases hsec : (blockF s.data.toList n ((exprU s.data.toList (r.opening s.data.toList 40)).1.closing s.data.toList 41)).1.seesOne s.data.toList 123 123
  ·exact rule_cond1 s hs b r w h f n hB hn t0 t1 t2 t3 hsec
  ·exact rule_cond2 s hs b r w h f n hB hn t0 t1 t2 t3 hsec
 cases t4 : r.seesOne s.data.toList 42 42
 case true => exact rule_loop s hs b r w h f n hB hn t0 t1 t2 t3 t4
 exact rule_none s hs b r w h f n hB hn t0 t1 t2 t3 t4
end Go.Proofs.YtdgmoiflahoihaaGreatDoor
namespace Go.Proofs.YtdgmoiflahoihaaGreatDoor
open Go.RowKit
set_option linter.unusedSimpArgs false
set_option linter.unusedVariables false
def Making (n : Nat) (w : World) (B : Nat) (v : Value) (l : List (RT (n + 1))) : Prop :=
 RowsC (α := RT (n + 1)) (fun cs q => RuleV n w (fun k => B ≤ k ∧ some k ≠ v.ownBlock) cs q) w (fun k => B ≤ k) v l
def lenOfS : Value → Nat
 | .slice _ n _ => n
 | _ => 0
theorem making_nil (n : Nat) (w : World) (B : Nat) : Making n w B nilS [] := ⟨[], World.ownsRow_nil .., fun k e => (by cases e), rfl, fun i h => (by cases h)⟩
theorem making_done {n : Nat} {w : World} {B : Nat} {v : Value} {l : List (RT (n + 1))} (h : Making n w B v l) : RulesV (n + 1) w (fun k => B ≤ k) v l :=
 rowsC_frame (one := fun cs (q : RT (n + 1)) => RuleV n w (fun k => B ≤ k ∧ some k ≠ v.ownBlock) cs q) h (fun k hk _ => ⟨hk, rfl⟩) (fun cs q hq => ruleV_frame hq (fun k hk _ => ⟨hk.1, rfl⟩))
theorem making_frame {n : Nat} {w w' : World} {B : Nat} {v : Value} {l : List (RT (n + 1))} (h : Making n w B v l) (hk : ∀ k, B ≤ k → k < w.heap.size → w'.heap[k]? = w.heap[k]?) : Making n w' B v l :=
 rowsC_frame (one := fun cs (q : RT (n + 1)) => RuleV n w (fun k => B ≤ k ∧ some k ≠ v.ownBlock) cs q) h (fun k h1 h2 => ⟨h1, hk k h1 h2⟩) (fun cs q hq => ruleV_frame hq (fun k h1 h2 => ⟨h1, hk k h1.1 h2⟩))
theorem making_but {n : Nat} {w w' : World} {B b : Nat} {v : Value} {l : List (RT (n + 1))} (h : Making n w B v l) (hb : But b w w') (hB : b < B) : Making n w' B v l :=
 making_frame h (fun k h1 h2 => hb.block k h2 (fun e => by cases e; omega))
theorem making_more {n : Nat} {w w' : World} {B : Nat} {v v' : Value} {l : List (RT (n + 1))} {q : RT (n + 1)} {xs : List (List Value)} {cs : List Value} (hB : B ≤ w.heap.size)
  (h2 : ∀ k, v.ownBlock = some k → B ≤ k ∧ k < w.heap.size) (h3 : xs.length = l.length) (h4 : ∀ i (h : i < l.length) (h' : i < xs.length), RuleV n w (fun k => B ≤ k ∧ some k ≠ v.ownBlock) xs[i] l[i])
  (hq : RuleV n w (fun k => B ≤ k ∧ some k ≠ v.ownBlock) cs q)
  (ho : w'.ownsRow 0 149 8 v' (l.length + 1) (xs.flatten ++ cs)) (hg : w.grownBy w' v.ownBlock) (hf : v'.ownBlock = v.ownBlock ∨ ∃ g, v'.ownBlock = some g ∧ w.heap.size ≤ g) : Making n w' B v' (l ++ [q]) := by
 have hk : ∀ k, (B ≤ k ∧ some k ≠ v.ownBlock) → k < w.heap.size → (B ≤ k ∧ some k ≠ v'.ownBlock) ∧ w'.heap[k]? = w.heap[k]? := by
  intro k h1 hl
  refine ⟨⟨h1.1, ?_⟩, hg.block k hl h1.2⟩
  rcases hf with e | ⟨g, e, hge⟩
  ·rw [e]; exact h1.2
  ·rw [e]; intro e2; cases e2; omega
 refine ⟨xs ++ [cs], by simpa using ho, ?_, by simp [h3], ?_⟩
 ·intro k e
  rcases hf with e1 | ⟨g, e1, hge⟩
  ·rw [e1] at e; exact (h2 k e).1
  ·rw [e1] at e; cases e; omega
 ·intro i h h'
  by_cases hi : i < l.length
  ·have := ruleV_frame (h4 i hi (by omega)) hk
   simpa [List.getElem_append, hi, h3] using this
  ·have hi2 : i = l.length := by simp at h; omega
   subst hi2
   have := ruleV_frame hq hk
   simpa [List.getElem_append, h3] using this
theorem rulesL_stop {α : Type} {rule : Rd → Rd × α} {halt : Rd → Bool} {k : Nat} {r : Rd} (h : halt r = true) : rulesL rule halt (k + 1) r = (r, []) := by
 unfold rulesL; rw [h]; simp
theorem rulesL_step {α : Type} {rule : Rd → Rd × α} {halt : Rd → Bool} {k : Nat} {r : Rd} (hb : r.bad = false) (h : halt r = false) : rulesL rule halt (k + 1) r = ((rulesL rule halt k (rule r).1).1, (rule r).2 :: (rulesL rule halt k (rule r).1).2) := by
 conv => lhs; unfold rulesL
 rw [h, hb]; simp
theorem eight_new (w : World) (a0 a1 a2 a3 a4 a5 a6 a7 : Value) (t : TypeId) : ∀ j u, [a0, a1, a2, a3, a4, a5, a6, a7][j]? = some u → (w.alloc (.cells #[a0, a1, a2, a3, a4, a5, a6, a7] t)).cell? ((⟨w.heap.size, 0, none⟩ : Addr).add j) = some u := by
 intro j u h
 match j, h with
 | 0, h => simp at h; subst h; simp [go_sem, Addr.add]
 | 1, h => simp at h; subst h; simp [go_sem, Addr.add]
 | 2, h => simp at h; subst h; simp [go_sem, Addr.add]
 | 3, h => simp at h; subst h; simp [go_sem, Addr.add]
 | 4, h => simp at h; subst h; simp [go_sem, Addr.add]
 | 5, h => simp at h; subst h; simp [go_sem, Addr.add]
 | 6, h => simp at h; subst h; simp [go_sem, Addr.add]
 | 7, h => simp at h; subst h; simp [go_sem, Addr.add]
 | j + 8, h => simp at h
theorem eight_at (w : World) (g : Nat) (hg : g = w.heap.size) (a0 a1 a2 a3 a4 a5 a6 a7 : Value) (t : TypeId) : ∀ j u, [a0, a1, a2, a3, a4, a5, a6, a7][j]? = some u → (w.alloc (.cells #[a0, a1, a2, a3, a4, a5, a6, a7] t)).cell? ((⟨g, 0, none⟩ : Addr).add j) = some u := by
 subst hg
 exact eight_new w a0 a1 a2 a3 a4 a5 a6 a7 t
theorem But.grown {b : Nat} {w W w' : World} {row : Option Nat} (h : But b w W) (hg : W.grownBy w' row) (hr : ∀ k, row = some k → w.heap.size ≤ k) : But b w w' := by
 obtain ⟨h1, h2, h3, h4, h5⟩ := h
 obtain ⟨k1, k2, k3, k4, k5⟩ := hg
 refine ⟨k1.trans h1, k2.trans h2, k3.trans h3, by omega, fun k hk hne => ?_⟩
 rw [k5 k (by omega) (fun e => by have := hr k e.symm; omega)]
 exact h5 k hk hne
theorem making_len {n : Nat} {w : World} {B : Nat} {v : Value} {l : List (RT (n + 1))} (h : Making n w B v l) : lenOfS v = l.length := by
 obtain ⟨xs, h1, _⟩ := h
 rcases Joins.ownsRow_forms h1 with ⟨rfl, e⟩ | ⟨g, cap, rfl⟩
 ·rw [e]; rfl
 ·rfl
theorem making_append {n : Nat} {w w3 W w4 : World} {b : Nat} {s : ByteArray} {r : Rd} {v v' : Value} {l : List (RT (n + 1))} {q : RT (n + 1)} {cs : List Value} {o1 o2 : Obj} (hW : W = (w3.alloc o1).alloc o2)
  (hb : b < w.heap.size) (hB : But b w w3) (hr : ReaderAt w3 b s r nilS) {xs : List (List Value)} (m1 : w3.ownsRow 0 149 8 v l.length xs.flatten) (m2 : ∀ k, v.ownBlock = some k → w.heap.size ≤ k) (m3 : xs.length = l.length)
  (m4 : ∀ i (h : i < l.length) (h' : i < xs.length), RuleV n w3 (fun k => w.heap.size ≤ k ∧ some k ≠ v.ownBlock) xs[i] l[i])
  (hq : RuleV n w3 (fun k => w.heap.size ≤ k ∧ some k ≠ v.ownBlock) cs q)
  (ho : w4.ownsRow 0 149 8 v' (l.length + 1) (xs.flatten ++ cs)) (hg : W.grownBy w4 v.ownBlock) (hf0 : v'.ownBlock = v.ownBlock ∨ ∃ g, v'.ownBlock = some g ∧ w3.heap.size + 1 + 1 ≤ g) :
  Making n w4 w.heap.size v' (l ++ [q]) ∧ ReaderAt w4 b s r nilS ∧ But b w w4 := by
 subst hW
 have hsz := hB.size
 have hf : v'.ownBlock = v.ownBlock ∨ ∃ g, v'.ownBlock = some g ∧ ((w3.alloc o1).alloc o2).heap.size ≤ g := by
  rcases hf0 with e | ⟨g, e, hge⟩
  ·exact .inl e
  ·exact .inr ⟨g, e, by simp; omega⟩
 have hk : ∀ k, (w.heap.size ≤ k ∧ some k ≠ v.ownBlock) → k < w3.heap.size → (w.heap.size ≤ k ∧ some k ≠ v.ownBlock) ∧ ((w3.alloc o1).alloc o2).heap[k]? = w3.heap[k]? := by
  intro k h1 hl
  refine ⟨h1, ?_⟩
  rw [Below.heap_alloc _ _ _ (by simp; omega), Below.heap_alloc _ _ _ hl]
 refine ⟨making_more (w := (w3.alloc o1).alloc o2) (by simp; omega) (fun k e => ⟨m2 k e, by have := (m1.lt k e).2; simp; omega⟩) m3 (fun i h h' => ruleV_frame (m4 i h h') hk) (ruleV_frame hq hk) ho hg hf, ?_, ?_⟩
 ·refine readerAt_grown (readerAt_alloc (readerAt_alloc hr _) _) hg ?_
  intro e
  have := m2 b e.symm
  omega
 ·exact But.grown ((hB.alloc _).alloc _) hg m2
set_option maxRecDepth 100000 in
set_option maxHeartbeats 1000000 in
theorem block_succ (s : ByteArray) (hs : s.size ≤ 400) (n : Nat) (hB : BlkCalls s n) : BlkCalls s (n + 1) := by
 intro b r w h f hn
 have hsl : s.data.toList.length = s.size := by simp
 have d0 := f.d0
 have d8 := f.d8
 have p0 : r.pos ≤ s.size := by have := f.le; omega
 have hb : b < w.heap.size := World.block_lt_of_cell? w _ h.c0
 obtain ⟨o1, o2, o3, o4, o5⟩ := opening_facts (t := s.data.toList) 123 f.le
 obtain ⟨iR, hiR, hzR, hsR, hbR⟩ := parts_of_info infoRule
 show Calls _ _ _ _ fun e w' => ∃ v, e = .returned v ∧ RulesV (n + 1) w' _ v (blockU s.data.toList (fun r => ruleF s.data.toList n r) r).2 ∧ ReaderAt w' b s (blockU s.data.toList (fun r => ruleF s.data.toList n r) r).1 nilS ∧ But b w w'
 unfold blockU
 simp only
 generalize hR : rulesL (fun r => ruleF s.data.toList n r) (fun r => r.seesOne s.data.toList 125 125) (s.data.toList.length + 1) (r.opening s.data.toList 123) = R
 generalize hO : r.opening s.data.toList 123 = ro at *
 have HO : Hid (r.opening s.data.toList 123 = ro) := hO
 have HR : Hid (rulesL (fun r => ruleF s.data.toList n r) (fun r => r.seesOne s.data.toList 125 125) (s.data.toList.length + 1) ro = R) := hR
 have HB : Hid (BlkCalls s n) := hB
 have HH : Hid (ReaderAt w b s r nilS) := h
 have HO5 : Hid (8 ≤ r.depth → ro.bad = true) := o5
 clear hR hO hB h o4 o5
 go_enter Tryz.func184, Tryz.ntmps184
 go_wp2_with fail
 refine (opening_any b s r nilS 123 _ HH.out hs p0 (by omega) (by omega)).mono ?_
 rw [HO.out]
 rintro e w1 ⟨rfl, hr1, hb1⟩
 go_wp2_with fail
 go_loopw [3] (fun x w' => ∃ (j : Nat) (r' : Rd) (l : List (RT (n + 1))) (v : Value), v = x ∧ Hid (ReaderAt w' b s r' nilS) ∧ Hid (But b w w') ∧ Hid (Making n w' w.heap.size v l) ∧ r'.pos ≤ s.data.toList.length ∧ r'.depth = r.depth + 1 ∧ Hid (8 ≤ r.depth → r'.bad = true) ∧ l.length + j = s.data.toList.length + 1 ∧ Hid (r'.bad = false → s.data.toList.length - r'.pos < j) ∧ Hid ((rulesL (fun r => ruleF s.data.toList n r) (fun r => r.seesOne s.data.toList 125 125) j r').1 = R.1 ∧ l ++ (rulesL (fun r => ruleF s.data.toList n r) (fun r => r.seesOne s.data.toList 125 125) j r').2 = R.2)) (fun x _ => 1000 - lenOfS x)
 case atStart => exact ⟨s.data.toList.length + 1, ro, [], _, rfl, hr1, hb1, making_nil _ _ _, o2, o3, HO5, by simp, fun _ => by omega, by show _ ∧ _; rw [HR.out]; exact ⟨rfl, rfl⟩⟩
 case round =>
  obtain ⟨j, r', l, v, rfl, HR', HB', HM, hp', hd', HD', hlj, HJ, HQ⟩ := hrel
  have hsz : w.heap.size ≤ wr.heap.size := HB'.out.size
  have hpp : r'.pos ≤ s.size := by omega
  obtain ⟨c0, c1, c2, c3, c4, fz⟩ := id HR'.out
  cases hbad : r'.bad
  ·have hj := HJ.out hbad
   obtain ⟨j', rfl⟩ : ∃ j', j = j' + 1 := ⟨j - 1, by omega⟩
   have hd7 : r.depth < 8 := by
    apply Decidable.byContradiction
    intro hc
    have := HD'.out (by omega)
    rw [hbad] at this
    cases this
   rw [hbad] at c4
   cases hse : r'.seesOne s.data.toList 125 125
   ·have hq := HQ.out
    rw [rulesL_step hbad hse] at hq
    simp only at hq
    go_wp2_with fail
    refine (sees_but b s r' nilS 125 _ HR'.out hs hpp).mono ?_
    rw [hse]
    rintro e w2 ⟨rfl, hr2, hb2⟩
    have fb : FitB s.data.toList r' := ⟨hp', by omega, by omega⟩
    have hst := ruleF_stp s.data.toList n fb
    have HM2 : Hid (Making n w2 w.heap.size v l) := making_but HM.out hb2 hb
    have HB2 : Hid (But b w w2) := HB'.out.trans hb2
    clear HM HB' c0 c1 c2 c3 c4 fz hb2
    go_wp2_with fail
    refine (rule_rd s hs b r' _ hr2 fb n HB.out (by omega)).mono ?_
    rintro e w3 ⟨cs, rfl, hru, hr3, hb3⟩
    generalize hz : ruleF s.data.toList n r' = z at *
    clear hz hr2
    obtain ⟨z1, rule⟩ := z
    simp only at hru hr3 hst hq
    have hsz2 : w2.heap.size ≤ w3.heap.size := hb3.size
    have hsz2b := HB2.out.size
    have hbw3 : b < w3.heap.size := by omega
    have HM3 : Hid (Making n w3 w.heap.size v l) := making_but HM2.out hb3 hb
    have HB3 : Hid (But b w w3) := HB2.out.trans hb3
    obtain ⟨xs, m1, m2, m3, m4⟩ := HM3.out
    have hown2 : ∀ k, v.ownBlock = some k → k < w2.heap.size := by
     obtain ⟨ys, y1, _⟩ := HM2.out
     exact fun k e => (y1.lt k e).2
    have hru2 : RuleV n w3 (fun k => w.heap.size ≤ k ∧ some k ≠ v.ownBlock) cs rule := ruleV_frame hru (fun k hk _ => ⟨⟨by omega, fun e => by have := hown2 k e.symm; omega⟩, rfl⟩)
    have HRU : Hid _ := hru2
    obtain ⟨ve, va, vb, hcs, hpe, hra, hrb⟩ := hru
    subst hcs
    obtain ⟨ae, ne, ce, hve⟩ : ∃ aa nn cc, ve = .slice aa nn cc := by
     rcases Joins.ownsRow_forms hpe.1 with ⟨rfl, _⟩ | ⟨g, cap, rfl⟩ <;> exact ⟨_, _, _, rfl⟩
    obtain ⟨aa, na, ca, hva⟩ := rulesV_form hra
    obtain ⟨ab, nb, cb, hvb⟩ := rulesV_form hrb
    subst hve hva hvb
    clear hpe hra hrb hb3 HM2 HB2 hru2
    have HQ2 : Hid _ := hq
    have HST : Hid _ := hst
    have HR3 : Hid _ := hr3
    obtain ⟨c0, c1, c2, c3, c4, fz⟩ := hr3
    have M1 : Hid (w3.ownsRow 0 149 8 v l.length xs.flatten) := m1
    have M2 : Hid (∀ k, v.ownBlock = some k → w.heap.size ≤ k) := m2
    have M4 : Hid _ := m4
    clear m1 m2 m4 hq hst
    simp only [coreV, List.cons_append, List.nil_append]
    go_wp2_with (at_builtin; refine wpList_append_fresh rfl (.tmp 19) (.tmp 21) 66 rfl 0 149 iR (.agg #[.int .i64 0, .int .i64 0, .int .i64 0, .int .i64 0, .int .i64 0, .slice none 0 0, .slice none 0 0, .slice none 0 0]) 8 112 Tryz.underlying66 hiR hzR hsR hbR rfl (by decide) v l.length xs.flatten (by rfl) (by exact (M1.out.alloc _).alloc _) ⟨w3.heap.size + 1, 0, none⟩ 1 1 [.int .i64 rule.1.kind, .int .i64 rule.1.place, .int .i64 rule.1.name, .int .i64 rule.1.label, .int .i64 rule.1.count, .slice ae ne ce, .slice aa na ca, .slice ab nb cb] (by rfl) rfl (by exact eight_at _ _ (by simp) _ _ _ _ _ _ _ _ 149) (by intro q hq; simp at hq; rcases hq with rfl | rfl | rfl | rfl | rfl | rfl | rfl | rfl <;> rfl) (by unfold maxLen; omega) (by omega) (Nat.zero_le _) (by decide) ?nxt)
    case nxt =>
     intro v' w4 hown hgrow hfr
     obtain ⟨mk, hr4, hb4⟩ := making_append rfl hb HB3.out HR3.out M1.out M2.out m3 M4.out HRU.out hown hgrow hfr
     have HM4 : Hid _ := mk
     have hlv := making_len HM3.out
     have hlv4 := making_len mk
     obtain ⟨g, cap, hv'⟩ := Joins.ownsRow_form hown (by omega)
     subst hv'
     have HR4 : Hid _ := hr4
     have HB4 : Hid _ := hb4
     clear c0 c1 c2 c3 c4 fz hgrow hfr hown hr4 hb4 mk
     go_wp2_with fail
     go_roundw
     case rel =>
      refine ⟨j', z1, l ++ [rule], _, rfl, HR4, HB4, HM4, HST.out.1.le, by rw [HST.out.1.depth]; exact hd', fun h8 => by omega, by simp; omega, fun hzb => ?_, ?_⟩
      ·have := HST.out.2
       have := HST.out.1.le
       rcases HST.out.2 with h5 | h5
       ·rw [hzb] at h5; cases h5
       ·omega
      ·have := HQ2.out
       exact ⟨this.1, by rw [List.append_assoc]; exact this.2⟩
     case measure =>
      rw [hlv]
      simp only [lenOfS]
      omega
   ·have hq := HQ.out
    rw [rulesL_stop (rule := fun r => ruleF s.data.toList n r) (halt := fun r => r.seesOne s.data.toList 125 125) hse] at hq
    simp only [List.append_nil] at hq
    have HQ2 : Hid _ := hq
    clear hq
    go_wp2_with fail
    refine (sees_but b s r' nilS 125 _ HR'.out hs hpp).mono ?_
    rw [hse]
    rintro e w2 ⟨rfl, hr2, hb2⟩
    have HM2 : Hid (Making n w2 w.heap.size v l) := making_but HM.out hb2 hb
    have HB2 : Hid (But b w w2) := HB'.out.trans hb2
    clear HM HB' c0 c1 c2 c3 c4 fz hb2
    go_wp2_with fail
    refine (closing_any b s r' nilS 125 _ hr2 hs hpp (by omega) (by omega)).mono ?_
    rintro e w3 ⟨rfl, hr3, hb3⟩
    go_wp2_with fail
    go_ret
    refine ⟨v, rfl, ?_, ?_, HB2.out.trans hb3⟩
    ·rw [← HQ2.out.2]
     exact making_done (making_but HM2.out hb3 hb)
    ·rw [← HQ2.out.1]
     exact hr3
  ·have hq := HQ.out
   rw [rulesL_bad hbad] at hq
   simp only [List.append_nil] at hq
   have HQ2 : Hid _ := hq
   rw [hbad] at c4
   clear hq
   go_wp2_with fail
   refine (closing_any b s r' nilS 125 _ HR'.out hs hpp (by omega) (by omega)).mono ?_
   rintro e w3 ⟨rfl, hr3, hb3⟩
   go_wp2_with fail
   go_ret
   refine ⟨v, rfl, ?_, ?_, HB'.out.trans hb3⟩
   ·rw [← HQ2.out.2]
    exact making_done (making_but HM.out hb3 hb)
   ·rw [← HQ2.out.1]
    exact hr3
end Go.Proofs.YtdgmoiflahoihaaGreatDoor
namespace Go.Proofs.YtdgmoiflahoihaaGreatDoor
open Go.RowKit
set_option linter.unusedSimpArgs false
set_option linter.unusedVariables false
set_option maxHeartbeats 1000000 in
theorem block_zero (s : ByteArray) (hs : s.size ≤ 400) : BlkCalls s 0 := by
 intro b r w h f hn
 have hsl : s.data.toList.length = s.size := by simp
 have d0 := f.d0
 have d8 := f.d8
 have p0 : r.pos ≤ s.size := by have := f.le; omega
 have hb : b < w.heap.size := World.block_lt_of_cell? w _ h.c0
 obtain ⟨o1, o2, o3, o4, o5⟩ := opening_facts (t := s.data.toList) 123 f.le
 show Calls _ _ _ _ fun e w' => ∃ v, e = .returned v ∧ RulesV 0 w' _ v _ ∧ ReaderAt w' b s ((r.opening s.data.toList 123).closing s.data.toList 125) nilS ∧ But b w w'
 generalize hO : r.opening s.data.toList 123 = ro at *
 have HO : Hid (r.opening s.data.toList 123 = ro) := hO
 have hbad : ro.bad = true := o5 (by omega)
 have HH : Hid (ReaderAt w b s r nilS) := h
 have hpp : ro.pos ≤ s.size := by omega
 clear hO h o4 o5
 go_enter Tryz.func184, Tryz.ntmps184
 go_wp2_with fail
 refine (opening_any b s r nilS 123 _ HH.out hs p0 (by omega) (by omega)).mono ?_
 rw [HO.out]
 rintro e w1 ⟨rfl, hr1, hb1⟩
 go_wp2_with fail
 go_loopw [3] (fun x w' => x = nilS ∧ w' = w1) (fun x _ => 0)
 case atStart => exact ⟨rfl, rfl⟩
 case round =>
  obtain ⟨rfl, rfl⟩ := hrel
  have HR1 : Hid _ := hr1
  obtain ⟨c0, c1, c2, c3, c4, fz⟩ := hr1
  rw [hbad] at c4
  go_wp2_with fail
  refine (closing_any b s ro nilS 125 _ HR1.out hs hpp (by omega) (by omega)).mono ?_
  rintro e w3 ⟨rfl, hr3, hb3⟩
  go_wp2_with fail
  go_ret
  exact ⟨nilS, rfl, ⟨World.ownsRow_nil .., fun k e => (by cases e)⟩, hr3, hb1.trans hb3⟩
theorem block_all (s : ByteArray) (hs : s.size ≤ 400) : ∀ n, BlkCalls s n
 | 0 => block_zero s hs
 | n + 1 => block_succ s hs n (block_all s hs n)
theorem atEnd_but (b : Nat) (s : ByteArray) (r : Rd) (pv : Value) (w : World) (h : ReaderAt w b s r pv) (hs : s.size ≤ 400) (hp : r.pos ≤ s.size) :
  Calls Tryz.prog 119 #[.pointer (some ⟨b, 0, none⟩)] w fun e w' => e = .returned (.bool (decide (s.size ≤ r.pos))) ∧ ReaderAt w' b s r pv ∧ But b w w' := by
 refine (atEnd_any b s r pv w h hs hp).mono ?_
 rintro e w' ⟨rfl, n, rfl⟩
 exact ⟨rfl, h.drewN n, (But.refl b _).drewN n⟩
set_option maxRecDepth 100000 in
set_option maxHeartbeats 1000000 in
theorem topRules_any (s : ByteArray) (hs : s.size ≤ 400) (n b : Nat) (hn8 : n = 8) (r : Rd) (w : World) (h : ReaderAt w b s r nilS) (f : r.pos ≤ s.data.toList.length) (hd : r.depth = 0) :
  Calls Tryz.prog 83 #[.pointer (some ⟨b, 0, none⟩)] w fun e w' => ∃ v, e = .returned v ∧ RulesV (n + 1) w' (fun k => w.heap.size ≤ k) v (rulesL (fun r => ruleF s.data.toList n r) (fun r => decide (s.data.toList.length ≤ r.pos)) (s.data.toList.length + 1) r).2 ∧ ReaderAt w' b s (rulesL (fun r => ruleF s.data.toList n r) (fun r => decide (s.data.toList.length ≤ r.pos)) (s.data.toList.length + 1) r).1 nilS ∧ But b w w' := by
 have hsl : s.data.toList.length = s.size := by simp
 have p0 : r.pos ≤ s.size := by omega
 have hb : b < w.heap.size := World.block_lt_of_cell? w _ h.c0
 obtain ⟨iR, hiR, hzR, hsR, hbR⟩ := parts_of_info infoRule
 generalize hR : rulesL (fun r => ruleF s.data.toList n r) (fun r => decide (s.data.toList.length ≤ r.pos)) (s.data.toList.length + 1) r = R
 have HR : Hid (rulesL (fun r => ruleF s.data.toList n r) (fun r => decide (s.data.toList.length ≤ r.pos)) (s.data.toList.length + 1) r = R) := hR
 have HB : Hid (BlkCalls s n) := block_all s hs n
 have HH : Hid (ReaderAt w b s r nilS) := h
 clear hR h
 go_enter Tryz.func83, Tryz.ntmps83
 go_wp2_with fail
 go_loopw [3] (fun x w' => ∃ (j : Nat) (r' : Rd) (l : List (RT (n + 1))) (v : Value), v = x ∧ Hid (ReaderAt w' b s r' nilS) ∧ Hid (But b w w') ∧ Hid (Making n w' w.heap.size v l) ∧ r'.pos ≤ s.data.toList.length ∧ r'.depth = 0 ∧ l.length + j = s.data.toList.length + 1 ∧ Hid (r'.bad = false → s.data.toList.length - r'.pos < j) ∧ Hid ((rulesL (fun r => ruleF s.data.toList n r) (fun r => decide (s.data.toList.length ≤ r.pos)) j r').1 = R.1 ∧ l ++ (rulesL (fun r => ruleF s.data.toList n r) (fun r => decide (s.data.toList.length ≤ r.pos)) j r').2 = R.2)) (fun x _ => 1000 - lenOfS x)
 case atStart => exact ⟨s.data.toList.length + 1, r, [], nilS, rfl, HH, But.refl _ _, making_nil _ _ _, f, hd, by simp, fun _ => by omega, by show _ ∧ _; rw [HR.out]; exact ⟨rfl, rfl⟩⟩
 case round =>
  obtain ⟨j, r', l, v, rfl, HR', HB', HM, hp', hd', hlj, HJ, HQ⟩ := hrel
  have hsz : w.heap.size ≤ wr.heap.size := HB'.out.size
  have hpp : r'.pos ≤ s.size := by omega
  obtain ⟨c0, c1, c2, c3, c4, fz⟩ := id HR'.out
  cases hbad : r'.bad
  ·have hj := HJ.out hbad
   obtain ⟨j', rfl⟩ : ∃ j', j = j' + 1 := ⟨j - 1, by omega⟩
   rw [hbad] at c4
   cases hse : decide (s.data.toList.length ≤ r'.pos)
   ·have hq := HQ.out
    rw [rulesL_step hbad hse] at hq
    simp only at hq
    go_wp2_with fail
    refine (atEnd_but b s r' nilS _ HR'.out hs hpp).mono ?_
    rw [show decide (s.size ≤ r'.pos) = _ from hsl ▸ hse]
    rintro e w2 ⟨rfl, hr2, hb2⟩
    have fb : FitB s.data.toList r' := ⟨hp', by omega, by omega⟩
    have hst := ruleF_stp s.data.toList n fb
    have HM2 : Hid (Making n w2 w.heap.size v l) := making_but HM.out hb2 hb
    have HB2 : Hid (But b w w2) := HB'.out.trans hb2
    clear HM HB' c0 c1 c2 c3 c4 fz hb2
    go_wp2_with fail
    refine (rule_rd s hs b r' _ hr2 fb n HB.out (by omega)).mono ?_
    rintro e w3 ⟨cs, rfl, hru, hr3, hb3⟩
    generalize hz : ruleF s.data.toList n r' = z at *
    clear hz hr2
    obtain ⟨z1, rule⟩ := z
    simp only at hru hr3 hst hq
    have hsz2 : w2.heap.size ≤ w3.heap.size := hb3.size
    have hsz2b := HB2.out.size
    have hbw3 : b < w3.heap.size := by omega
    have HM3 : Hid (Making n w3 w.heap.size v l) := making_but HM2.out hb3 hb
    have HB3 : Hid (But b w w3) := HB2.out.trans hb3
    obtain ⟨xs, m1, m2, m3, m4⟩ := HM3.out
    have hown2 : ∀ k, v.ownBlock = some k → k < w2.heap.size := by
     obtain ⟨ys, y1, _⟩ := HM2.out
     exact fun k e => (y1.lt k e).2
    have hru2 : RuleV n w3 (fun k => w.heap.size ≤ k ∧ some k ≠ v.ownBlock) cs rule := ruleV_frame hru (fun k hk _ => ⟨⟨by omega, fun e => by have := hown2 k e.symm; omega⟩, rfl⟩)
    have HRU : Hid _ := hru2
    obtain ⟨ve, va, vb, hcs, hpe, hra, hrb⟩ := hru
    subst hcs
    obtain ⟨ae, ne, ce, hve⟩ : ∃ aa nn cc, ve = .slice aa nn cc := by
     rcases Joins.ownsRow_forms hpe.1 with ⟨rfl, _⟩ | ⟨g, cap, rfl⟩ <;> exact ⟨_, _, _, rfl⟩
    obtain ⟨aa, na, ca, hva⟩ := rulesV_form hra
    obtain ⟨ab, nb, cb, hvb⟩ := rulesV_form hrb
    subst hve hva hvb
    clear hpe hra hrb hb3 HM2 HB2 hru2
    have HQ2 : Hid _ := hq
    have HST : Hid _ := hst
    have HR3 : Hid _ := hr3
    obtain ⟨c0, c1, c2, c3, c4, fz⟩ := hr3
    have M1 : Hid (w3.ownsRow 0 149 8 v l.length xs.flatten) := m1
    have M2 : Hid (∀ k, v.ownBlock = some k → w.heap.size ≤ k) := m2
    have M4 : Hid _ := m4
    clear m1 m2 m4 hq hst
    simp only [coreV, List.cons_append, List.nil_append]
    go_wp2_with (at_builtin; refine wpList_append_fresh rfl (.tmp 17) (.tmp 19) 66 rfl 0 149 iR (.agg #[.int .i64 0, .int .i64 0, .int .i64 0, .int .i64 0, .int .i64 0, .slice none 0 0, .slice none 0 0, .slice none 0 0]) 8 112 Tryz.underlying66 hiR hzR hsR hbR rfl (by decide) v l.length xs.flatten (by rfl) (by exact (M1.out.alloc _).alloc _) ⟨w3.heap.size + 1, 0, none⟩ 1 1 [.int .i64 rule.1.kind, .int .i64 rule.1.place, .int .i64 rule.1.name, .int .i64 rule.1.label, .int .i64 rule.1.count, .slice ae ne ce, .slice aa na ca, .slice ab nb cb] (by rfl) rfl (by exact eight_at _ _ (by simp) _ _ _ _ _ _ _ _ 149) (by intro q hq; simp at hq; rcases hq with rfl | rfl | rfl | rfl | rfl | rfl | rfl | rfl <;> rfl) (by unfold maxLen; omega) (by omega) (Nat.zero_le _) (by decide) ?nxt)
    case nxt =>
     intro v' w4 hown hgrow hfr
     obtain ⟨mk, hr4, hb4⟩ := making_append rfl hb HB3.out HR3.out M1.out M2.out m3 M4.out HRU.out hown hgrow hfr
     have HM4 : Hid _ := mk
     have hlv := making_len HM3.out
     have hlv4 := making_len mk
     obtain ⟨g, cap, hv'⟩ := Joins.ownsRow_form hown (by omega)
     subst hv'
     have HR4 : Hid _ := hr4
     have HB4 : Hid _ := hb4
     clear c0 c1 c2 c3 c4 fz hgrow hfr hown hr4 hb4 mk
     go_wp2_with fail
     go_roundw
     case rel =>
      refine ⟨j', z1, l ++ [rule], _, rfl, HR4, HB4, HM4, HST.out.1.le, by rw [HST.out.1.depth]; exact hd', by simp; omega, fun hzb => ?_, ?_⟩
      ·have := HST.out.2
       have := HST.out.1.le
       rcases HST.out.2 with h5 | h5
       ·rw [hzb] at h5; cases h5
       ·omega
      ·have := HQ2.out
       exact ⟨this.1, by rw [List.append_assoc]; exact this.2⟩
     case measure =>
      rw [hlv]
      simp only [lenOfS]
      omega
   ·have hq := HQ.out
    rw [rulesL_stop (rule := fun r => ruleF s.data.toList n r) (halt := fun r => decide (s.data.toList.length ≤ r.pos)) hse] at hq
    simp only [List.append_nil] at hq
    have HQ2 : Hid _ := hq
    clear hq
    go_wp2_with fail
    refine (atEnd_but b s r' nilS _ HR'.out hs hpp).mono ?_
    rw [show decide (s.size ≤ r'.pos) = _ from hsl ▸ hse]
    rintro e w2 ⟨rfl, hr2, hb2⟩
    have HM2 : Hid (Making n w2 w.heap.size v l) := making_but HM.out hb2 hb
    have HB2 : Hid (But b w w2) := HB'.out.trans hb2
    clear HM HB' c0 c1 c2 c3 c4 fz hb2
    go_wp2_with fail
    go_ret
    refine ⟨v, rfl, ?_, ?_, HB2.out⟩
    ·rw [← HQ2.out.2]
     exact making_done HM2.out
    ·rw [← HQ2.out.1]
     exact hr2
  ·have hq := HQ.out
   rw [rulesL_bad hbad] at hq
   simp only [List.append_nil] at hq
   have HQ2 : Hid _ := hq
   rw [hbad] at c4
   clear hq
   go_wp2_with fail
   go_ret
   refine ⟨v, rfl, ?_, ?_, HB'.out⟩
   ·rw [← HQ2.out.2]
    exact making_done HM.out
   ·rw [← HQ2.out.1]
    exact HR'.out
end Go.Proofs.YtdgmoiflahoihaaGreatDoor
namespace Go.Proofs.YtdgmoiflahoihaaGreatDoor
open Go.RowKit
set_option linter.unusedSimpArgs false
set_option linter.unusedVariables false
structure Hd where
 field : Bool
 place : Nat
 name : Int
 label : Nat
def hdV (h : Hd) : List Value := [.bool h.field, .int .i64 h.place, .int .i64 h.name, .int .i64 h.label]
def hdCells (l : List Hd) : List Value := l.flatMap hdV
theorem hdCells_app (l r : List Hd) : hdCells (l ++ r) = hdCells l ++ hdCells r := by simp [hdCells]
def headO (t : List UInt8) (r : Rd) : Rd := if r.seesOne t 63 63 then (r.takeOne t 63 63).1 else (r.takeOne t 33 33).1
def headU (t : List UInt8) (r : Rd) : Rd × Hd :=
 let nm := (headO t r).takeOne t 97 122
 let lb := (nm.1.takeOne t 58 58).1.label t
 ((lb.1.takeOne t 59 59).1, ⟨r.seesOne t 63 63, (headO t r).pos, nm.2, lb.2⟩)
def headsL (t : List UInt8) : Nat → Rd → Rd × List Hd
 | 0, r => (r, [])
 | k + 1, r => if r.seesOne t 63 63 || r.seesOne t 33 33 then ((headsL t k (headU t r).1).1, (headU t r).2 :: (headsL t k (headU t r).1).2) else (r, [])
theorem headO_stp {t : List UInt8} {r : Rd} (h : r.pos ≤ t.length) : Stp t r (headO t r) := by
 unfold headO
 split
 ·exact takeOne_stp _ _ h
 ·exact takeOne_stp _ _ h
theorem headU_stp {t : List UInt8} {r : Rd} (h : r.pos ≤ t.length) : Stp t r (headU t r).1 := by
 unfold headU
 have a := headO_stp h
 have b := a.trans (takeOne_stp 97 122 a.le)
 have c := b.trans (takeOne_stp 58 58 b.le)
 have d := c.trans (label_stp c.le)
 exact d.trans (takeOne_stp 59 59 d.le)
theorem headU_gt {t : List UInt8} {r : Rd} (hs : (r.seesOne t 63 63 || r.seesOne t 33 33) = true) : r.pos < (headU t r).1.pos := by
 have hlt : r.pos < t.length := by
  rcases Bool.or_eq_true_iff.mp hs with h | h <;> exact (sees_lt h).1
 have a := headO_stp (t := t) (r := r) (Nat.le_of_lt hlt)
 have b := takeOne_stp 97 122 a.le
 have c := b.trans (takeOne_stp 58 58 b.le)
 have d := c.trans (label_stp c.le)
 have e := d.trans (takeOne_stp 59 59 d.le)
 have g : r.pos + 1 ≤ (headO t r).pos := by
  unfold headO
  split
  ·rename_i h; exact takeOne_gt h
  ·rename_i h
   rcases Bool.or_eq_true_iff.mp hs with h2 | h2
   ·exact absurd h2 h
   ·exact takeOne_gt h2
 have := e.pos
 show r.pos < (Rd.takeOne t _ 59 59).1.pos
 omega
theorem headsL_stp {t : List UInt8} : ∀ (k : Nat) (r : Rd), r.pos ≤ t.length → Stp t r (headsL t k r).1
 | 0, r, h => stp_refl h
 | k + 1, r, h => by
  unfold headsL
  split
  ·have a := headU_stp h
   exact a.trans (headsL_stp k _ a.le)
  ·exact stp_refl h
structure LocH (W w : World) (b : Nat) (s : ByteArray) (r : Rd) (v0 v1 v2 v3 : Value) : Prop where
 rd : ReaderAt W b s r nilS
 g0 : W.cell? ⟨w.heap.size + 1, 0, none⟩ = some v0
 g1 : W.cell? ⟨w.heap.size + 1, 1, none⟩ = some v1
 g2 : W.cell? ⟨w.heap.size + 1, 2, none⟩ = some v2
 g3 : W.cell? ⟨w.heap.size + 1, 3, none⟩ = some v3
 gf : ∀ o, W.frozen? ⟨w.heap.size + 1, o, none⟩ = false
 h0 : W.cell? ⟨w.heap.size, 0, none⟩ = some (.bool false)
 h1 : W.cell? ⟨w.heap.size, 1, none⟩ = some (.int .i64 0)
 h2 : W.cell? ⟨w.heap.size, 2, none⟩ = some (.int .i64 0)
 h3 : W.cell? ⟨w.heap.size, 3, none⟩ = some (.int .i64 0)
 hf : ∀ o, W.frozen? ⟨w.heap.size, o, none⟩ = false
 but : But b w W
 size : w.heap.size + 2 ≤ W.heap.size
 lt : b < w.heap.size
theorem locH_start {w : World} {b : Nat} {s : ByteArray} {r : Rd} (h : ReaderAt w b s r nilS) (t t' : TypeId) (v0 v1 v2 v3 : Value) : LocH ((w.alloc (.cells #[.bool false, .int .i64 0, .int .i64 0, .int .i64 0] t)).alloc (.cells #[v0, v1, v2, v3] t')) w b s r v0 v1 v2 v3 := by
 have hb : b < w.heap.size := World.block_lt_of_cell? w _ h.c0
 refine ⟨readerAt_alloc (readerAt_alloc h _) _, ?_, ?_, ?_, ?_, fun o => ?_, ?_, ?_, ?_, ?_, fun o => ?_, ((But.refl b w).alloc _).alloc _, by simp, hb⟩
 all_goals simp [go_sem]
theorem LocH.call {W W' w : World} {b : Nat} {s : ByteArray} {r r' : Rd} {v0 v1 v2 v3 : Value} (L : LocH W w b s r v0 v1 v2 v3) (hr : ReaderAt W' b s r' nilS) (hb : But b W W') : LocH W' w b s r' v0 v1 v2 v3 := by
 have hs := L.size
 have hl := L.lt
 have k1 : W'.heap[w.heap.size + 1]? = W.heap[w.heap.size + 1]? := hb.block _ (by omega) (fun e => by cases e; omega)
 have k0 : W'.heap[w.heap.size]? = W.heap[w.heap.size]? := hb.block _ (by omega) (fun e => by cases e; omega)
 exact ⟨hr, (World.cell?_of_block (a := ⟨w.heap.size + 1, 0, none⟩) k1).trans L.g0, (World.cell?_of_block (a := ⟨w.heap.size + 1, 1, none⟩) k1).trans L.g1, (World.cell?_of_block (a := ⟨w.heap.size + 1, 2, none⟩) k1).trans L.g2, (World.cell?_of_block (a := ⟨w.heap.size + 1, 3, none⟩) k1).trans L.g3, fun o => (World.frozen?_of_block (a := ⟨w.heap.size + 1, o, none⟩) k1).trans (L.gf o), (World.cell?_of_block (a := ⟨w.heap.size, 0, none⟩) k0).trans L.h0, (World.cell?_of_block (a := ⟨w.heap.size, 1, none⟩) k0).trans L.h1, (World.cell?_of_block (a := ⟨w.heap.size, 2, none⟩) k0).trans L.h2, (World.cell?_of_block (a := ⟨w.heap.size, 3, none⟩) k0).trans L.h3, fun o => (World.frozen?_of_block (a := ⟨w.heap.size, o, none⟩) k0).trans (L.hf o), L.but.trans hb, Nat.le_trans hs hb.size, hl⟩
theorem LocH.set0 {W w : World} {b : Nat} {s : ByteArray} {r : Rd} {v0 v1 v2 v3 : Value} (L : LocH W w b s r v0 v1 v2 v3) (u : Value) : LocH (W.setCell ⟨w.heap.size + 1, 0, none⟩ u) w b s r u v1 v2 v3 := by
 obtain ⟨rd, g0, g1, g2, g3, gf, h0, h1, h2, h3, hf, but, size, lt⟩ := L
 refine ⟨readerAt_set rd _ _ (by simp only; omega), ?_, ?_, ?_, ?_, fun o => ?_, ?_, ?_, ?_, ?_, fun o => ?_, but.setNew _ _ (by simp), by simpa using size, lt⟩
 all_goals simp [go_sem, g0, g1, g2, g3, gf, h0, h1, h2, h3, hf]
theorem LocH.set1 {W w : World} {b : Nat} {s : ByteArray} {r : Rd} {v0 v1 v2 v3 : Value} (L : LocH W w b s r v0 v1 v2 v3) (u : Value) : LocH (W.setCell ⟨w.heap.size + 1, 1, none⟩ u) w b s r v0 u v2 v3 := by
 obtain ⟨rd, g0, g1, g2, g3, gf, h0, h1, h2, h3, hf, but, size, lt⟩ := L
 refine ⟨readerAt_set rd _ _ (by simp only; omega), ?_, ?_, ?_, ?_, fun o => ?_, ?_, ?_, ?_, ?_, fun o => ?_, but.setNew _ _ (by simp), by simpa using size, lt⟩
 all_goals simp [go_sem, g0, g1, g2, g3, gf, h0, h1, h2, h3, hf]
theorem LocH.set2 {W w : World} {b : Nat} {s : ByteArray} {r : Rd} {v0 v1 v2 v3 : Value} (L : LocH W w b s r v0 v1 v2 v3) (u : Value) : LocH (W.setCell ⟨w.heap.size + 1, 2, none⟩ u) w b s r v0 v1 u v3 := by
 obtain ⟨rd, g0, g1, g2, g3, gf, h0, h1, h2, h3, hf, but, size, lt⟩ := L
 refine ⟨readerAt_set rd _ _ (by simp only; omega), ?_, ?_, ?_, ?_, fun o => ?_, ?_, ?_, ?_, ?_, fun o => ?_, but.setNew _ _ (by simp), by simpa using size, lt⟩
 all_goals simp [go_sem, g0, g1, g2, g3, gf, h0, h1, h2, h3, hf]
theorem LocH.set3 {W w : World} {b : Nat} {s : ByteArray} {r : Rd} {v0 v1 v2 v3 : Value} (L : LocH W w b s r v0 v1 v2 v3) (u : Value) : LocH (W.setCell ⟨w.heap.size + 1, 3, none⟩ u) w b s r v0 v1 v2 u := by
 obtain ⟨rd, g0, g1, g2, g3, gf, h0, h1, h2, h3, hf, but, size, lt⟩ := L
 refine ⟨readerAt_set rd _ _ (by simp only; omega), ?_, ?_, ?_, ?_, fun o => ?_, ?_, ?_, ?_, ?_, fun o => ?_, but.setNew _ _ (by simp), by simpa using size, lt⟩
 all_goals simp [go_sem, g0, g1, g2, g3, gf, h0, h1, h2, h3, hf]
theorem locH_end {W w : World} {b : Nat} {s : ByteArray} {r : Rd} {v0 v1 v2 v3 : Value} (L : LocH W w b s r v0 v1 v2 v3) (u0 u1 u2 u3 : Value) : ReaderAt (((((W).setCell ⟨w.heap.size, 0, none⟩ u0).setCell ⟨w.heap.size, 1, none⟩ u1).setCell ⟨w.heap.size, 2, none⟩ u2).setCell ⟨w.heap.size, 3, none⟩ u3) b s r nilS ∧ But b w (((((W).setCell ⟨w.heap.size, 0, none⟩ u0).setCell ⟨w.heap.size, 1, none⟩ u1).setCell ⟨w.heap.size, 2, none⟩ u2).setCell ⟨w.heap.size, 3, none⟩ u3) := by
 have hl := L.lt
 refine ⟨?_, ?_⟩
 ·repeat (refine readerAt_set ?_ _ _ (by simp only; omega))
  exact L.rd
 ·repeat (refine But.setNew ?_ _ _ (by simp))
  exact L.but
set_option maxHeartbeats 1000000 in
theorem head_field (s : ByteArray) (hs : s.size ≤ 400) (b : Nat) (r : Rd) (w : World) (h : ReaderAt w b s r nilS) (hp : r.pos ≤ s.data.toList.length) (t0 : r.seesOne s.data.toList 63 63 = true) :
  Calls Tryz.prog 118 #[.pointer (some ⟨b, 0, none⟩)] w fun e w' => e = .returned (.agg (hdV (headU s.data.toList r).2).toArray) ∧ ReaderAt w' b s (headU s.data.toList r).1 nilS ∧ But b w w' := by
 have hsl : s.data.toList.length = s.size := by simp
 have a1 := headO_stp hp
 have a2 := takeOne_stp 97 122 a1.le
 have a3 := takeOne_stp 58 58 a2.le
 have a4 := label_stp a3.le
 have p0 : r.pos ≤ s.size := by omega
 unfold headU
 simp only [hdV, t0]
 have hO : headO s.data.toList r = (r.takeOne s.data.toList 63 63).1 := by unfold headO; rw [if_pos t0]
 rw [hO] at a1 a2 a3 a4 ⊢
 clear hO
 generalize hh_r1 : (r.takeOne s.data.toList 63 63).1 = r1 at *
 have H_r1 : Hid ((r.takeOne s.data.toList 63 63).1 = r1) := hh_r1
 clear hh_r1
 generalize hh_q2 : r1.takeOne s.data.toList 97 122 = q2 at *
 have H_q2 : Hid (r1.takeOne s.data.toList 97 122 = q2) := hh_q2
 clear hh_q2
 generalize hh_r3 : (q2.1.takeOne s.data.toList 58 58).1 = r3 at *
 have H_r3 : Hid ((q2.1.takeOne s.data.toList 58 58).1 = r3) := hh_r3
 clear hh_r3
 generalize hh_q4 : r3.label s.data.toList = q4 at *
 have H_q4 : Hid (r3.label s.data.toList = q4) := hh_q4
 clear hh_q4
 have p1 : r1.pos ≤ s.size := by have := a1.le; omega
 have p2 : q2.1.pos ≤ s.size := by have := a2.le; omega
 have p3 : r3.pos ≤ s.size := by have := a3.le; omega
 have p4 : q4.1.pos ≤ s.size := by have := a4.le; omega
 have HH : Hid (ReaderAt w b s r nilS) := h
 have hb : b < w.heap.size := World.block_lt_of_cell? w _ h.c0
 have hbn : ¬ b = w.heap.size := by omega
 have hbn1 : ¬ b = w.heap.size + 1 := by omega
 clear a1 a2 a3 a4 h
 go_enter Tryz.func118, Tryz.ntmps118
 go_wp2_with fail
 refine (sees_but b s r nilS 63 _ (locH_start HH.out _ _ _ _ _ _).rd hs p0).mono ?_
 rw [t0]
 rintro e w1 ⟨rfl, hr1, hb1⟩
 have L1 := (locH_start HH.out _ _ _ _ _ _).call hr1 hb1
 have HL1 : Hid _ := L1
 clear hr1 hb1
 obtain ⟨rd, g0, g1, g2, g3, gf, h0, h1, h2, h3, hf, but, size, lt⟩ := L1
 clear rd but
 go_wp2_with fail
 refine (take_any b s r nilS 63 _ (HL1.out.set0 _).rd hs p0).mono ?_
 rw [H_r1.out]
 rintro e w2 ⟨rfl, hr2, hb2⟩
 have L2 := (HL1.out.set0 _).call hr2 hb2
 have HL2 : Hid _ := L2
 clear HL1 g0 g1 g2 g3 gf h0 h1 h2 h3 hf size lt
 clear hr2 hb2
 obtain ⟨rd, g0, g1, g2, g3, gf, h0, h1, h2, h3, hf, but, size, lt⟩ := L2
 clear rd but
 obtain ⟨c0, c1, c2, c3, c4, fz⟩ := id HL2.out.rd
 go_wp2_with fail
 refine (takeName_any b s r1 nilS _ (HL2.out.set1 _).rd hs p1).mono ?_
 rw [H_q2.out]
 rintro e w3 ⟨rfl, hr3, hb3⟩
 have L3 := (HL2.out.set1 _).call hr3 hb3
 have HL3 : Hid _ := L3
 clear HL2 g0 g1 g2 g3 gf h0 h1 h2 h3 hf size lt
 clear hr3 hb3
 obtain ⟨rd, g0, g1, g2, g3, gf, h0, h1, h2, h3, hf, but, size, lt⟩ := L3
 clear rd but
 clear c0 c1 c2 c3 c4 fz
 go_wp2_with fail
 refine (take_any b s q2.1 nilS 58 _ (HL3.out.set2 _).rd hs p2).mono ?_
 rw [H_r3.out]
 rintro e w4 ⟨rfl, hr4, hb4⟩
 have L4 := (HL3.out.set2 _).call hr4 hb4
 have HL4 : Hid _ := L4
 clear HL3 g0 g1 g2 g3 gf h0 h1 h2 h3 hf size lt
 clear hr4 hb4
 obtain ⟨rd, g0, g1, g2, g3, gf, h0, h1, h2, h3, hf, but, size, lt⟩ := L4
 clear rd but
 go_wp2_with fail
 refine (label_rd b s r3 nilS _ HL4.out.rd hs p3).mono ?_
 rw [H_q4.out]
 rintro e w5 ⟨rfl, hr5, hb5⟩
 have L5 := HL4.out.call hr5 hb5
 have HL5 : Hid _ := L5
 clear HL4 g0 g1 g2 g3 gf h0 h1 h2 h3 hf size lt
 clear hr5 hb5
 obtain ⟨rd, g0, g1, g2, g3, gf, h0, h1, h2, h3, hf, but, size, lt⟩ := L5
 clear rd but
 go_wp2_with fail
 refine (take_any b s q4.1 nilS 59 _ (HL5.out.set3 _).rd hs p4).mono ?_
 rintro e w6 ⟨rfl, hr6, hb6⟩
 have L6 := (HL5.out.set3 _).call hr6 hb6
 have HL6 : Hid _ := L6
 clear HL5 g0 g1 g2 g3 gf h0 h1 h2 h3 hf size lt
 clear hr6 hb6
 obtain ⟨rd, g0, g1, g2, g3, gf, h0, h1, h2, h3, hf, but, size, lt⟩ := L6
 clear rd but
 go_wp2_with fail
 refine bodyPost_ret (v := .agg #[.bool true, .int .i64 r1.pos, .int .i64 q2.2, .int .i64 q4.2]) (by simp [results, Tryz.results118, go_sem, g0, g1, g2, g3, h0, h1, h2, h3, gf, hf]) rfl ?_
 obtain ⟨e1, e2⟩ := locH_end HL6.out (.bool true) (.int .i64 r1.pos) (.int .i64 q2.2) (.int .i64 q4.2)
 exact ⟨rfl, e1, e2⟩
set_option maxHeartbeats 1000000 in
theorem head_name (s : ByteArray) (hs : s.size ≤ 400) (b : Nat) (r : Rd) (w : World) (h : ReaderAt w b s r nilS) (hp : r.pos ≤ s.data.toList.length) (t0 : r.seesOne s.data.toList 63 63 = false) :
  Calls Tryz.prog 118 #[.pointer (some ⟨b, 0, none⟩)] w fun e w' => e = .returned (.agg (hdV (headU s.data.toList r).2).toArray) ∧ ReaderAt w' b s (headU s.data.toList r).1 nilS ∧ But b w w' := by
 have hsl : s.data.toList.length = s.size := by simp
 have a1 := headO_stp hp
 have a2 := takeOne_stp 97 122 a1.le
 have a3 := takeOne_stp 58 58 a2.le
 have a4 := label_stp a3.le
 have p0 : r.pos ≤ s.size := by omega
 unfold headU
 simp only [hdV, t0]
 have hO : headO s.data.toList r = (r.takeOne s.data.toList 33 33).1 := by unfold headO; rw [if_neg (by rw [t0]; decide)]
 rw [hO] at a1 a2 a3 a4 ⊢
 clear hO
 generalize hh_r1 : (r.takeOne s.data.toList 33 33).1 = r1 at *
 have H_r1 : Hid ((r.takeOne s.data.toList 33 33).1 = r1) := hh_r1
 clear hh_r1
 generalize hh_q2 : r1.takeOne s.data.toList 97 122 = q2 at *
 have H_q2 : Hid (r1.takeOne s.data.toList 97 122 = q2) := hh_q2
 clear hh_q2
 generalize hh_r3 : (q2.1.takeOne s.data.toList 58 58).1 = r3 at *
 have H_r3 : Hid ((q2.1.takeOne s.data.toList 58 58).1 = r3) := hh_r3
 clear hh_r3
 generalize hh_q4 : r3.label s.data.toList = q4 at *
 have H_q4 : Hid (r3.label s.data.toList = q4) := hh_q4
 clear hh_q4
 have p1 : r1.pos ≤ s.size := by have := a1.le; omega
 have p2 : q2.1.pos ≤ s.size := by have := a2.le; omega
 have p3 : r3.pos ≤ s.size := by have := a3.le; omega
 have p4 : q4.1.pos ≤ s.size := by have := a4.le; omega
 have HH : Hid (ReaderAt w b s r nilS) := h
 have hb : b < w.heap.size := World.block_lt_of_cell? w _ h.c0
 have hbn : ¬ b = w.heap.size := by omega
 have hbn1 : ¬ b = w.heap.size + 1 := by omega
 clear a1 a2 a3 a4 h
 go_enter Tryz.func118, Tryz.ntmps118
 go_wp2_with fail
 refine (sees_but b s r nilS 63 _ (locH_start HH.out _ _ _ _ _ _).rd hs p0).mono ?_
 rw [t0]
 rintro e w1 ⟨rfl, hr1, hb1⟩
 have L1 := (locH_start HH.out _ _ _ _ _ _).call hr1 hb1
 have HL1 : Hid _ := L1
 clear hr1 hb1
 obtain ⟨rd, g0, g1, g2, g3, gf, h0, h1, h2, h3, hf, but, size, lt⟩ := L1
 clear rd but
 go_wp2_with fail
 refine (take_any b s r nilS 33 _ (HL1.out.set0 _).rd hs p0).mono ?_
 rw [H_r1.out]
 rintro e w2 ⟨rfl, hr2, hb2⟩
 have L2 := (HL1.out.set0 _).call hr2 hb2
 have HL2 : Hid _ := L2
 clear HL1 g0 g1 g2 g3 gf h0 h1 h2 h3 hf size lt
 clear hr2 hb2
 obtain ⟨rd, g0, g1, g2, g3, gf, h0, h1, h2, h3, hf, but, size, lt⟩ := L2
 clear rd but
 obtain ⟨c0, c1, c2, c3, c4, fz⟩ := id HL2.out.rd
 go_wp2_with fail
 refine (takeName_any b s r1 nilS _ (HL2.out.set1 _).rd hs p1).mono ?_
 rw [H_q2.out]
 rintro e w3 ⟨rfl, hr3, hb3⟩
 have L3 := (HL2.out.set1 _).call hr3 hb3
 have HL3 : Hid _ := L3
 clear HL2 g0 g1 g2 g3 gf h0 h1 h2 h3 hf size lt
 clear hr3 hb3
 obtain ⟨rd, g0, g1, g2, g3, gf, h0, h1, h2, h3, hf, but, size, lt⟩ := L3
 clear rd but
 clear c0 c1 c2 c3 c4 fz
 go_wp2_with fail
 refine (take_any b s q2.1 nilS 58 _ (HL3.out.set2 _).rd hs p2).mono ?_
 rw [H_r3.out]
 rintro e w4 ⟨rfl, hr4, hb4⟩
 have L4 := (HL3.out.set2 _).call hr4 hb4
 have HL4 : Hid _ := L4
 clear HL3 g0 g1 g2 g3 gf h0 h1 h2 h3 hf size lt
 clear hr4 hb4
 obtain ⟨rd, g0, g1, g2, g3, gf, h0, h1, h2, h3, hf, but, size, lt⟩ := L4
 clear rd but
 go_wp2_with fail
 refine (label_rd b s r3 nilS _ HL4.out.rd hs p3).mono ?_
 rw [H_q4.out]
 rintro e w5 ⟨rfl, hr5, hb5⟩
 have L5 := HL4.out.call hr5 hb5
 have HL5 : Hid _ := L5
 clear HL4 g0 g1 g2 g3 gf h0 h1 h2 h3 hf size lt
 clear hr5 hb5
 obtain ⟨rd, g0, g1, g2, g3, gf, h0, h1, h2, h3, hf, but, size, lt⟩ := L5
 clear rd but
 go_wp2_with fail
 refine (take_any b s q4.1 nilS 59 _ (HL5.out.set3 _).rd hs p4).mono ?_
 rintro e w6 ⟨rfl, hr6, hb6⟩
 have L6 := (HL5.out.set3 _).call hr6 hb6
 have HL6 : Hid _ := L6
 clear HL5 g0 g1 g2 g3 gf h0 h1 h2 h3 hf size lt
 clear hr6 hb6
 obtain ⟨rd, g0, g1, g2, g3, gf, h0, h1, h2, h3, hf, but, size, lt⟩ := L6
 clear rd but
 go_wp2_with fail
 refine bodyPost_ret (v := .agg #[.bool false, .int .i64 r1.pos, .int .i64 q2.2, .int .i64 q4.2]) (by simp [results, Tryz.results118, go_sem, g0, g1, g2, g3, h0, h1, h2, h3, gf, hf]) rfl ?_
 obtain ⟨e1, e2⟩ := locH_end HL6.out (.bool false) (.int .i64 r1.pos) (.int .i64 q2.2) (.int .i64 q4.2)
 exact ⟨rfl, e1, e2⟩
theorem head_rd (s : ByteArray) (hs : s.size ≤ 400) (b : Nat) (r : Rd) (w : World) (h : ReaderAt w b s r nilS) (hp : r.pos ≤ s.data.toList.length) :
  Calls Tryz.prog 118 #[.pointer (some ⟨b, 0, none⟩)] w fun e w' => e = .returned (.agg (hdV (headU s.data.toList r).2).toArray) ∧ ReaderAt w' b s (headU s.data.toList r).1 nilS ∧ But b w w' := by
 cases t0 : r.seesOne s.data.toList 63 63
 ·exact head_name s hs b r w h hp t0
 ·exact head_field s hs b r w h hp t0
end Go.Proofs.YtdgmoiflahoihaaGreatDoor
namespace Go.Proofs.YtdgmoiflahoihaaGreatDoor
open Go.RowKit
set_option linter.unusedSimpArgs false
set_option linter.unusedVariables false
def HeadsV (w : World) (P : Nat → Prop) (v : Value) (l : List Hd) : Prop := w.ownsRow 0 146 4 v l.length (hdCells l) ∧ ∀ k, v.ownBlock = some k → P k
theorem headsV_frame {w w' : World} {P Q : Nat → Prop} {v : Value} {l : List Hd} (h : HeadsV w P v l) (hk : ∀ k, P k → k < w.heap.size → Q k ∧ w'.heap[k]? = w.heap[k]?) : HeadsV w' Q v l :=
 ⟨own_same h.1 (fun k e hl => (hk k (h.2 k e) hl).2), fun k e => (hk k (h.2 k e) (h.1.lt k e).2).1⟩
theorem headsV_but {w w' : World} {b B : Nat} {v : Value} {l : List Hd} (h : HeadsV w (fun k => B ≤ k) v l) (hb : But b w w') (hB : b < B) : HeadsV w' (fun k => B ≤ k) v l :=
 headsV_frame h (fun k hk hl => ⟨hk, hb.block k hl (fun e => by cases e; omega)⟩)
theorem headsV_len {w : World} {P : Nat → Prop} {v : Value} {l : List Hd} (h : HeadsV w P v l) : lenOfS v = l.length := by
 rcases Joins.ownsRow_forms h.1 with ⟨rfl, e⟩ | ⟨g, cap, rfl⟩
 ·rw [e]; rfl
 ·rfl
theorem headsL_yes {t : List UInt8} {r : Rd} (k : Nat) (h : (r.seesOne t 63 63 || r.seesOne t 33 33) = true) : headsL t (k + 1) r = ((headsL t k (headU t r).1).1, (headU t r).2 :: (headsL t k (headU t r).1).2) := by
 conv => lhs; unfold headsL
 rw [if_pos h]
theorem headsL_no {t : List UInt8} {r : Rd} (k : Nat) (h : (r.seesOne t 63 63 || r.seesOne t 33 33) = false) : headsL t (k + 1) r = (r, []) := by
 conv => lhs; unfold headsL
 rw [if_neg (by rw [h]; decide)]
theorem four_at (w : World) (g : Nat) (hg : g = w.heap.size) (a0 a1 a2 a3 : Value) (t : TypeId) : ∀ j u, [a0, a1, a2, a3][j]? = some u → (w.alloc (.cells #[a0, a1, a2, a3] t)).cell? ((⟨g, 0, none⟩ : Addr).add j) = some u := by
 subst hg
 intro j u h
 match j, h with
 | 0, h => simp at h; subst h; simp [go_sem, Addr.add]
 | 1, h => simp at h; subst h; simp [go_sem, Addr.add]
 | 2, h => simp at h; subst h; simp [go_sem, Addr.add]
 | 3, h => simp at h; subst h; simp [go_sem, Addr.add]
 | j + 4, h => simp at h
theorem heads_append {w w3 W w4 : World} {b : Nat} {s : ByteArray} {r : Rd} {v v' : Value} {l : List Hd} {q : Hd} {o1 o2 : Obj} (hW : W = (w3.alloc o1).alloc o2)
  (hb : b < w.heap.size) (hB : But b w w3) (hr : ReaderAt w3 b s r nilS) (hm : HeadsV w3 (fun k => w.heap.size ≤ k) v l)
  (ho : w4.ownsRow 0 146 4 v' (l.length + 1) (hdCells l ++ hdV q)) (hg : W.grownBy w4 v.ownBlock) (hf0 : v'.ownBlock = v.ownBlock ∨ ∃ g, v'.ownBlock = some g ∧ w3.heap.size + 1 + 1 ≤ g) :
  HeadsV w4 (fun k => w.heap.size ≤ k) v' (l ++ [q]) ∧ ReaderAt w4 b s r nilS ∧ But b w w4 := by
 subst hW
 have hsz := hB.size
 refine ⟨⟨?_, ?_⟩, ?_, ?_⟩
 ·rw [List.length_append, hdCells_app]
  simpa [hdCells] using ho
 ·intro k e
  rcases hf0 with e1 | ⟨g, e1, hge⟩
  ·rw [e1] at e; exact hm.2 k e
  ·rw [e1] at e; cases e; omega
 ·refine readerAt_grown (readerAt_alloc (readerAt_alloc hr _) _) hg ?_
  intro e
  have := hm.2 b e.symm
  omega
 ·exact But.grown ((hB.alloc _).alloc _) hg hm.2
set_option maxRecDepth 100000 in
set_option maxHeartbeats 1000000 in
theorem heads_any (s : ByteArray) (hs : s.size ≤ 400) (b : Nat) (r : Rd) (w : World) (h : ReaderAt w b s r nilS) (hp : r.pos ≤ s.data.toList.length) :
  Calls Tryz.prog 82 #[.pointer (some ⟨b, 0, none⟩)] w fun e w' => ∃ v, e = .returned v ∧ HeadsV w' (fun k => w.heap.size ≤ k) v (headsL s.data.toList (s.data.toList.length + 1) r).2 ∧ ReaderAt w' b s (headsL s.data.toList (s.data.toList.length + 1) r).1 nilS ∧ But b w w' := by
 have hsl : s.data.toList.length = s.size := by simp
 have hb : b < w.heap.size := World.block_lt_of_cell? w _ h.c0
 obtain ⟨iR, hiR, hzR, hsR, hbR⟩ := parts_of_info infoHead
 generalize hR : headsL s.data.toList (s.data.toList.length + 1) r = R
 have HR : Hid (headsL s.data.toList (s.data.toList.length + 1) r = R) := hR
 have HH : Hid (ReaderAt w b s r nilS) := h
 clear hR h
 go_enter Tryz.func82, Tryz.ntmps82
 go_wp2_with fail
 go_loopw [3] (fun x w' => ∃ (j : Nat) (r' : Rd) (l : List Hd) (v : Value), v = x ∧ Hid (ReaderAt w' b s r' nilS) ∧ Hid (But b w w') ∧ Hid (HeadsV w' (fun k => w.heap.size ≤ k) v l) ∧ r'.pos ≤ s.data.toList.length ∧ l.length + j = s.data.toList.length + 1 ∧ s.data.toList.length - r'.pos < j ∧ Hid ((headsL s.data.toList j r').1 = R.1 ∧ l ++ (headsL s.data.toList j r').2 = R.2)) (fun x _ => 1000 - lenOfS x)
 case atStart => exact ⟨s.data.toList.length + 1, r, [], nilS, rfl, HH, But.refl _ _, ⟨World.ownsRow_nil .., fun k e => (by cases e)⟩, hp, by simp, by omega, by show _ ∧ _; rw [HR.out]; exact ⟨rfl, rfl⟩⟩
 case round =>
  obtain ⟨j, r', l, v, rfl, HR', HB', HM, hp', hlj, hj, HQ⟩ := hrel
  have hsz : w.heap.size ≤ wr.heap.size := HB'.out.size
  have hpp : r'.pos ≤ s.size := by omega
  obtain ⟨j', rfl⟩ : ∃ j', j = j' + 1 := ⟨j - 1, by omega⟩
  cases hor : (r'.seesOne s.data.toList 63 63 || r'.seesOne s.data.toList 33 33)
  ·have hq := HQ.out
   rw [headsL_no j' hor] at hq
   simp only [List.append_nil] at hq
   have HQ2 : Hid _ := hq
   clear hq
   obtain ⟨t1, t2⟩ := Bool.or_eq_false_iff.mp hor
   clear hor
   go_wp2_with fail
   refine (sees_but b s r' nilS 63 _ HR'.out hs hpp).mono ?_
   rw [t1]
   rintro e w2 ⟨rfl, hr2, hb2⟩
   go_wp2_with fail
   refine (sees_but b s r' nilS 33 _ hr2 hs hpp).mono ?_
   rw [t2]
   rintro e w3 ⟨rfl, hr3, hb3⟩
   go_wp2_with fail
   go_ret
   refine ⟨v, rfl, ?_, ?_, (HB'.out.trans hb2).trans hb3⟩
   ·rw [← HQ2.out.2]
    exact headsV_but (headsV_but HM.out hb2 hb) hb3 hb
   ·rw [← HQ2.out.1]
    exact hr3
  ·have hgt := headU_gt hor
   have hst := headU_stp hp'
   have hq := HQ.out
   rw [headsL_yes j' hor] at hq
   simp only at hq
   have HQ2 : Hid _ := hq
   clear hq
   generalize hz : headU s.data.toList r' = z at *
   have HZ : Hid (headU s.data.toList r' = z) := hz
   have HST : Hid _ := hst
   clear hz hst
   obtain ⟨z1, hd⟩ := z
   simp only at hgt
   cases t1 : r'.seesOne s.data.toList 63 63
   ·have t2 : r'.seesOne s.data.toList 33 33 = true := by rw [t1] at hor; simpa using hor
    clear hor
    go_wp2_with fail
    refine (sees_but b s r' nilS 63 _ HR'.out hs hpp).mono ?_
    rw [t1]
    rintro e w2 ⟨rfl, hr2, hb2⟩
    go_wp2_with fail
    refine (sees_but b s r' nilS 33 _ hr2 hs hpp).mono ?_
    rw [t2]
    rintro e w3 ⟨rfl, hr3, hb3⟩
    have HM3 : Hid (HeadsV w3 (fun k => w.heap.size ≤ k) v l) := headsV_but (headsV_but HM.out hb2 hb) hb3 hb
    have HB3 : Hid (But b w w3) := (HB'.out.trans hb2).trans hb3
    clear HM HB' hb2 hb3 hr2 t1 t2
    go_wp2_with fail
    refine (head_rd s hs b r' _ hr3 hp').mono ?_
    rw [HZ.out]
    rintro e w4 ⟨rfl, hr4, hb4⟩
    have HM4 : Hid (HeadsV w4 (fun k => w.heap.size ≤ k) v l) := headsV_but HM3.out hb4 hb
    have HB4 : Hid (But b w w4) := HB3.out.trans hb4
    have hsz4 := HB4.out.size
    clear hb4 HM3 HB3 hr3
    have HR4 : Hid _ := hr4
    clear hr4
    simp only [hdV]
    go_wp2_with (at_builtin; refine wpList_append_fresh rfl (.tmp 13) (.tmp 15) 65 rfl 0 146 iR (.agg #[.bool false, .int .i64 0, .int .i64 0, .int .i64 0]) 4 32 Tryz.underlying65 hiR hzR hsR hbR rfl (by decide) v l.length (hdCells l) (by rfl) (by exact (HM4.out.1.alloc _).alloc _) ⟨w4.heap.size + 1, 0, none⟩ 1 1 [.bool hd.field, .int .i64 hd.place, .int .i64 hd.name, .int .i64 hd.label] (by rfl) rfl (by exact four_at _ _ (by simp) _ _ _ _ 146) (by intro q hq; simp at hq; rcases hq with rfl | rfl | rfl | rfl <;> rfl) (by unfold maxLen; omega) (by omega) (Nat.zero_le _) (by decide) ?nxt)
    case nxt =>
     intro v' w5 hown hgrow hfr
     obtain ⟨mk, hr5, hb5⟩ := heads_append (q := hd) rfl hb HB4.out HR4.out HM4.out hown hgrow hfr
     have hlv := headsV_len HM4.out
     have HM5 : Hid _ := mk
     obtain ⟨g, cap, hv'⟩ := Joins.ownsRow_form hown (by omega)
     subst hv'
     have HR5 : Hid _ := hr5
     have HB5 : Hid _ := hb5
     clear hgrow hfr hown hr5 hb5 mk
     go_wp2_with fail
     go_roundw
     case rel =>
      refine ⟨j', z1, l ++ [hd], _, rfl, HR5, HB5, HM5, HST.out.le, by simp; omega, by have := HST.out.le; omega, ?_⟩
      have := HQ2.out
      exact ⟨this.1, by rw [List.append_assoc]; exact this.2⟩
     case measure =>
      rw [hlv]
      simp only [lenOfS]
      omega
   ·clear hor
    go_wp2_with fail
    refine (sees_but b s r' nilS 63 _ HR'.out hs hpp).mono ?_
    rw [t1]
    rintro e w3 ⟨rfl, hr3, hb3⟩
    have HM3 : Hid (HeadsV w3 (fun k => w.heap.size ≤ k) v l) := headsV_but HM.out hb3 hb
    have HB3 : Hid (But b w w3) := HB'.out.trans hb3
    clear HM HB' hb3 t1
    go_wp2_with fail
    refine (head_rd s hs b r' _ hr3 hp').mono ?_
    rw [HZ.out]
    rintro e w4 ⟨rfl, hr4, hb4⟩
    have HM4 : Hid (HeadsV w4 (fun k => w.heap.size ≤ k) v l) := headsV_but HM3.out hb4 hb
    have HB4 : Hid (But b w w4) := HB3.out.trans hb4
    have hsz4 := HB4.out.size
    clear hb4 HM3 HB3 hr3
    have HR4 : Hid _ := hr4
    clear hr4
    simp only [hdV]
    go_wp2_with (at_builtin; refine wpList_append_fresh rfl (.tmp 13) (.tmp 15) 65 rfl 0 146 iR (.agg #[.bool false, .int .i64 0, .int .i64 0, .int .i64 0]) 4 32 Tryz.underlying65 hiR hzR hsR hbR rfl (by decide) v l.length (hdCells l) (by rfl) (by exact (HM4.out.1.alloc _).alloc _) ⟨w4.heap.size + 1, 0, none⟩ 1 1 [.bool hd.field, .int .i64 hd.place, .int .i64 hd.name, .int .i64 hd.label] (by rfl) rfl (by exact four_at _ _ (by simp) _ _ _ _ 146) (by intro q hq; simp at hq; rcases hq with rfl | rfl | rfl | rfl <;> rfl) (by unfold maxLen; omega) (by omega) (Nat.zero_le _) (by decide) ?nxt)
    case nxt =>
     intro v' w5 hown hgrow hfr
     obtain ⟨mk, hr5, hb5⟩ := heads_append (q := hd) rfl hb HB4.out HR4.out HM4.out hown hgrow hfr
     have hlv := headsV_len HM4.out
     have HM5 : Hid _ := mk
     obtain ⟨g, cap, hv'⟩ := Joins.ownsRow_form hown (by omega)
     subst hv'
     have HR5 : Hid _ := hr5
     have HB5 : Hid _ := hb5
     clear hgrow hfr hown hr5 hb5 mk
     go_wp2_with fail
     go_roundw
     case rel =>
      refine ⟨j', z1, l ++ [hd], _, rfl, HR5, HB5, HM5, HST.out.le, by simp; omega, by have := HST.out.le; omega, ?_⟩
      have := HQ2.out
      exact ⟨this.1, by rw [List.append_assoc]; exact this.2⟩
     case measure =>
      rw [hlv]
      simp only [lenOfS]
      omega
end Go.Proofs.YtdgmoiflahoihaaGreatDoor
