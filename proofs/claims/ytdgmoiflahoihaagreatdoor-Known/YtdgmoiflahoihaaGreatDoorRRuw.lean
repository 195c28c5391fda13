import Derived.Test.YtdgmoiflahoihaaGreatDoorREx4w

namespace Go.Proofs.YtdgmoiflahoihaaGreatDoor
open Go.RowKit
set_option linter.unusedSimpArgs false
set_option linter.unusedVariables false
theorem loc_end {W w : World} {b : Nat} {s : ByteArray} {r : Rd} {v0 v1 v2 v3 v4 v5 v6 v7 : Value} (L : Loc W w b s r v0 v1 v2 v3 v4 v5 v6 v7) (u0 u1 u2 u3 u4 u5 u6 u7 : Value) :
  ReaderAt (((((((((W).setCell ⟨w.heap.size, 0, none⟩ u0).setCell ⟨w.heap.size, 1, none⟩ u1).setCell ⟨w.heap.size, 2, none⟩ u2).setCell ⟨w.heap.size, 3, none⟩ u3).setCell ⟨w.heap.size, 4, none⟩ u4).setCell ⟨w.heap.size, 5, none⟩ u5).setCell ⟨w.heap.size, 6, none⟩ u6).setCell ⟨w.heap.size, 7, none⟩ u7) b s r nilS ∧ But b w (((((((((W).setCell ⟨w.heap.size, 0, none⟩ u0).setCell ⟨w.heap.size, 1, none⟩ u1).setCell ⟨w.heap.size, 2, none⟩ u2).setCell ⟨w.heap.size, 3, none⟩ u3).setCell ⟨w.heap.size, 4, none⟩ u4).setCell ⟨w.heap.size, 5, none⟩ u5).setCell ⟨w.heap.size, 6, none⟩ u6).setCell ⟨w.heap.size, 7, none⟩ u7) ∧
  (∀ v l, PartsV W (Past w) v l → PartsV (((((((((W).setCell ⟨w.heap.size, 0, none⟩ u0).setCell ⟨w.heap.size, 1, none⟩ u1).setCell ⟨w.heap.size, 2, none⟩ u2).setCell ⟨w.heap.size, 3, none⟩ u3).setCell ⟨w.heap.size, 4, none⟩ u4).setCell ⟨w.heap.size, 5, none⟩ u5).setCell ⟨w.heap.size, 6, none⟩ u6).setCell ⟨w.heap.size, 7, none⟩ u7) (fun k => w.heap.size ≤ k) v l) ∧
  (∀ n v l, RulesV n W (Past w) v l → RulesV n (((((((((W).setCell ⟨w.heap.size, 0, none⟩ u0).setCell ⟨w.heap.size, 1, none⟩ u1).setCell ⟨w.heap.size, 2, none⟩ u2).setCell ⟨w.heap.size, 3, none⟩ u3).setCell ⟨w.heap.size, 4, none⟩ u4).setCell ⟨w.heap.size, 5, none⟩ u5).setCell ⟨w.heap.size, 6, none⟩ u6).setCell ⟨w.heap.size, 7, none⟩ u7) (fun k => w.heap.size ≤ k) v l) := by
 have hl := L.lt
 have hk : ∀ k, Past w k → k < W.heap.size → w.heap.size ≤ k ∧ (((((((((W).setCell ⟨w.heap.size, 0, none⟩ u0).setCell ⟨w.heap.size, 1, none⟩ u1).setCell ⟨w.heap.size, 2, none⟩ u2).setCell ⟨w.heap.size, 3, none⟩ u3).setCell ⟨w.heap.size, 4, none⟩ u4).setCell ⟨w.heap.size, 5, none⟩ u5).setCell ⟨w.heap.size, 6, none⟩ u6).setCell ⟨w.heap.size, 7, none⟩ u7).heap[k]? = W.heap[k]? := by
  intro k hk _
  unfold Past at hk
  refine ⟨by omega, ?_⟩
  repeat rw [Below.heap_setCell _ _ _ _ (by simp only; omega)]
 refine ⟨?_, ?_, fun v l h => partsV_frame h hk, fun n v l h => rulesV_frame hk n v l h⟩
 ·repeat (refine readerAt_set ?_ _ _ (by simp only; omega))
  exact L.rd
 ·repeat (refine But.setNew ?_ _ _ (by simp))
  exact L.but
def BlkCalls (s : ByteArray) (n : Nat) : Prop := ∀ (b : Nat) (r : Rd) (w : World), ReaderAt w b s r nilS → FitB s.data.toList r → 8 ≤ r.depth + n →
 Calls Tryz.prog 184 #[.pointer (some ⟨b, 0, none⟩)] w fun e w' => ∃ v, e = .returned v ∧ RulesV n w' (fun k => w.heap.size ≤ k) v (blockF s.data.toList n r).2 ∧ ReaderAt w' b s (blockF s.data.toList n r).1 nilS ∧ But b w w'
theorem rulesV_form {n : Nat} {w : World} {P : Nat → Prop} {v : Value} {l : List (RT n)} (h : RulesV n w P v l) : ∃ aa nn cc, v = .slice aa nn cc := by
 cases n with
 | zero =>
  rcases Joins.ownsRow_forms h.1 with ⟨rfl, _⟩ | ⟨g, cap, rfl⟩ <;> exact ⟨_, _, _, rfl⟩
 | succ n =>
  obtain ⟨xs, h1, _⟩ := h
  rcases Joins.ownsRow_forms h1 with ⟨rfl, _⟩ | ⟨g, cap, rfl⟩ <;> exact ⟨_, _, _, rfl⟩
theorem sees_but (b : Nat) (s : ByteArray) (r : Rd) (pv : Value) (c : UInt8) (w : World) (h : ReaderAt w b s r pv) (hs : s.size ≤ 400) (hp : r.pos ≤ s.size) :
  Calls Tryz.prog 117 #[.pointer (some ⟨b, 0, none⟩), .int .u8 c.toNat] w fun e w' => e = .returned (.bool (r.seesOne s.data.toList c c)) ∧ ReaderAt w' b s r pv ∧ But b w w' := by
 refine (sees_any b s r pv c w h hs hp).mono ?_
 rintro e w' ⟨rfl, n, rfl⟩
 exact ⟨rfl, h.drewN n, (But.refl b _).drewN n⟩
theorem takeOne_range (t : List UInt8) (r : Rd) (a b : UInt8) : 0 ≤ (r.takeOne t a b).2 ∧ (r.takeOne t a b).2 ≤ 255 := by
 unfold Rd.takeOne
 split
 ·rename_i h
  have hlt := (sees_lt h).1
  have h2 : a ≤ t[r.pos] := by
   unfold Rd.seesOne at h
   rw [List.getElem?_eq_getElem hlt] at h
   simp at h
   exact h.2.1
  have h3 := UInt8.le_iff_toNat_le.mp h2
  have h4 := (t[r.pos]).toNat_lt
  have e : t.getD r.pos 0 = t[r.pos] := by simp [hlt]
  simp only [e]
  omega
 ·simp
set_option maxHeartbeats 1000000 in
theorem giveRule_any (s : ByteArray) (hs : s.size ≤ 400) (b : Nat) (r : Rd) (w : World) (h : ReaderAt w b s r nilS) (f : FitB s.data.toList r) (n : Nat) (hse : r.seesOne s.data.toList 97 122 = true) :
  Calls Tryz.prog 159 #[.pointer (some ⟨b, 0, none⟩)] w fun e w' => ∃ cs, e = .returned (.agg cs.toArray) ∧ RuleV n w' (fun k => w.heap.size ≤ k) cs (ruleF s.data.toList n r).2 ∧ ReaderAt w' b s (ruleF s.data.toList n r).1 nilS ∧ But b w w' := by
 unfold ruleF ruleU
 rw [if_pos hse]
 simp only
 have hsl : s.data.toList.length = s.size := by simp
 have p0 : r.pos ≤ s.size := by have := f.le; omega
 have a1 := takeOne_stp 97 122 f.le
 have a2 := takeOne_stp 61 61 a1.le
 have f2 := ((a1.trans a2).fitB f).fitR
 have a3 := expr_stp f2
 generalize hh_q1 : r.takeOne s.data.toList 97 122 = q1 at *
 have H_q1 : Hid (r.takeOne s.data.toList 97 122 = q1) := hh_q1
 clear hh_q1
 generalize hh_r2 : (q1.1.takeOne s.data.toList 61 61).1 = r2 at *
 have H_r2 : Hid ((q1.1.takeOne s.data.toList 61 61).1 = r2) := hh_r2
 clear hh_r2
 generalize hh_q3 : exprU s.data.toList r2 = q3 at *
 have H_q3 : Hid (exprU s.data.toList r2 = q3) := hh_q3
 clear hh_q3
 have F2 : Hid (FitR s.data.toList r2) := f2
 have p1 : q1.1.pos ≤ s.size := by have := a1.le; omega
 have p3 : q3.1.pos ≤ s.size := by have := a3.le; omega
 clear a1 a2 a3 f2 hse
 have HH : Hid (ReaderAt w b s r nilS) := h
 obtain ⟨c0, c1, c2, c3, c4, fz⟩ := h
 have hb : b < w.heap.size := World.block_lt_of_cell? w _ c0
 have hbn : ¬ b = w.heap.size := by omega
 have hbn1 : ¬ b = w.heap.size + 1 := by omega
 go_enter Tryz.func159, Tryz.ntmps159
 go_wp2_with fail
 refine (takeName_any b s r nilS _ (loc_start HH.out _ _ _ _ _ _ _ _ _ _).rd hs p0).mono ?_
 rw [H_q1.out]
 rintro e w1 ⟨rfl, hr1, hb1⟩
 have L1 := (loc_start HH.out _ _ _ _ _ _ _ _ _ _).call hr1 hb1
 have HL1 : Hid _ := L1
 clear c0 c1 c2 c3 c4 fz hr1 hb1
 obtain ⟨rd, g0, g1, g2, g3, g4, g5, g6, g7, gf, h0, h1, h2, h3, h4, h5, h6, h7, hf, but, size, lt⟩ := L1
 clear rd but
 go_wp2_with fail
 refine (take_any b s q1.1 nilS 61 _ (HL1.out.set2 _).rd hs p1).mono ?_
 rw [H_r2.out]
 rintro e w2 ⟨rfl, hr2, hb2⟩
 have L2 := (HL1.out.set2 _).call hr2 hb2
 have HL2 : Hid _ := L2
 clear HL1 g0 g1 g2 g3 g4 g5 g6 g7 gf h0 h1 h2 h3 h4 h5 h6 h7 hf size lt hr2 hb2
 obtain ⟨rd, g0, g1, g2, g3, g4, g5, g6, g7, gf, h0, h1, h2, h3, h4, h5, h6, h7, hf, but, size, lt⟩ := L2
 clear rd but
 go_wp2_with fail
 refine (takeExpr_any s hs b r2 nilS _ HL2.out.rd F2.out).mono ?_
 rw [H_q3.out]
 rintro e w3 ⟨ve, rfl, hr3, ho3, hb3⟩
 have L3 := HL2.out.call hr3 hb3
 have HL3 : Hid _ := L3
 have hve := Joins.ownsRow_forms ho3
 have PE_3 : Hid (PartsV w3 (Past w) ve q3.2) := ⟨own_mono ho3 (Nat.zero_le _), fun k hk => by have j1 := (ho3.lt k hk).1; have j2 := HL2.out.size; (try simp at j1); unfold Past; omega⟩
 clear ho3
 clear HL2 g0 g1 g2 g3 g4 g5 g6 g7 gf h0 h1 h2 h3 h4 h5 h6 h7 hf size lt hr3 hb3
 obtain ⟨rd, g0, g1, g2, g3, g4, g5, g6, g7, gf, h0, h1, h2, h3, h4, h5, h6, h7, hf, but, size, lt⟩ := L3
 clear rd but
 obtain ⟨aa, nn, cc, hvv⟩ : ∃ aa nn cc, ve = .slice aa nn cc := by
  rcases hve with ⟨rfl, _⟩ | ⟨g, cap, rfl⟩ <;> exact ⟨_, _, _, rfl⟩
 subst hvv
 clear hve
 go_wp2_with fail
 refine (take_any b s q3.1 nilS 59 _ (HL3.out.set5 _).rd hs p3).mono ?_
 rintro e w4 ⟨rfl, hr4, hb4⟩
 have L4 := (HL3.out.set5 _).call hr4 hb4
 have HL4 : Hid _ := L4
 have PE_4 : Hid _ := partsV_but (partsV_set PE_3.out _ _ (fun k hk => by unfold Past at hk; simp only; omega)) hb4 (fun k hk => by unfold Past at hk; omega)
 clear PE_3
 clear HL3 g0 g1 g2 g3 g4 g5 g6 g7 gf h0 h1 h2 h3 h4 h5 h6 h7 hf size lt hr4 hb4
 obtain ⟨rd, g0, g1, g2, g3, g4, g5, g6, g7, gf, h0, h1, h2, h3, h4, h5, h6, h7, hf, but, size, lt⟩ := L4
 clear rd but
 go_wp2_with fail
 refine bodyPost_ret (v := .agg #[.int .i64 0, .int .i64 r.pos, .int .i64 q1.2, .int .i64 0, .int .i64 0, .slice aa nn cc, .slice none 0 0, .slice none 0 0]) (by simp [results, Tryz.results159, go_sem, g0, g1, g2, g3, g4, g5, g6, g7, h0, h1, h2, h3, h4, h5, h6, h7, gf, hf]) rfl ?_
 obtain ⟨e1, e2, e3, e4⟩ := loc_end HL4.out (.int .i64 0) (.int .i64 r.pos) (.int .i64 q1.2) (.int .i64 0) (.int .i64 0) (.slice aa nn cc) (.slice none 0 0) (.slice none 0 0)
 exact ⟨[.int .i64 0, .int .i64 r.pos, .int .i64 q1.2, .int .i64 0, .int .i64 0, .slice aa nn cc, .slice none 0 0, .slice none 0 0], rfl, ⟨_, _, _, rfl, e3 _ _ PE_4.out, rulesV_nil _ _ _, rulesV_nil _ _ _⟩, e1, e2⟩
set_option maxHeartbeats 1000000 in
theorem openRule_any (s : ByteArray) (hs : s.size ≤ 400) (b : Nat) (r : Rd) (w : World) (h : ReaderAt w b s r nilS) (f : FitB s.data.toList r) (n : Nat) (hs1 : r.seesOne s.data.toList 97 122 = false) (hse : r.seesOne s.data.toList 94 94 = true) :
  Calls Tryz.prog 160 #[.pointer (some ⟨b, 0, none⟩)] w fun e w' => ∃ cs, e = .returned (.agg cs.toArray) ∧ RuleV n w' (fun k => w.heap.size ≤ k) cs (ruleF s.data.toList n r).2 ∧ ReaderAt w' b s (ruleF s.data.toList n r).1 nilS ∧ But b w w' := by
 unfold ruleF ruleU
 rw [if_neg (by rw [hs1]; decide), if_pos hse]
 simp only
 have hsl : s.data.toList.length = s.size := by simp
 have p0 : r.pos ≤ s.size := by have := f.le; omega
 have a0 := takeOne_stp 94 94 f.le
 have a1 := takeOne_stp 97 122 a0.le
 have a2 := takeOne_stp 58 58 a1.le
 have a3 := label_stp a2.le
 have a4 := takeOne_stp 61 61 a3.le
 have f4 := ((((a0.trans a1).trans a2).trans a3).trans a4).fitB f |>.fitR
 have a5 := expr_stp f4
 generalize hh_r0 : (r.takeOne s.data.toList 94 94).1 = r0 at *
 have H_r0 : Hid ((r.takeOne s.data.toList 94 94).1 = r0) := hh_r0
 clear hh_r0
 generalize hh_q1 : r0.takeOne s.data.toList 97 122 = q1 at *
 have H_q1 : Hid (r0.takeOne s.data.toList 97 122 = q1) := hh_q1
 clear hh_q1
 generalize hh_r2 : (q1.1.takeOne s.data.toList 58 58).1 = r2 at *
 have H_r2 : Hid ((q1.1.takeOne s.data.toList 58 58).1 = r2) := hh_r2
 clear hh_r2
 generalize hh_q3 : r2.label s.data.toList = q3 at *
 have H_q3 : Hid (r2.label s.data.toList = q3) := hh_q3
 clear hh_q3
 generalize hh_r4 : (q3.1.takeOne s.data.toList 61 61).1 = r4 at *
 have H_r4 : Hid ((q3.1.takeOne s.data.toList 61 61).1 = r4) := hh_r4
 clear hh_r4
 generalize hh_q5 : exprU s.data.toList r4 = q5 at *
 have H_q5 : Hid (exprU s.data.toList r4 = q5) := hh_q5
 clear hh_q5
 have F4 : Hid (FitR s.data.toList r4) := f4
 have p00 : r0.pos ≤ s.size := by have := a0.le; omega
 have p1 : q1.1.pos ≤ s.size := by have := a1.le; omega
 have p2 : r2.pos ≤ s.size := by have := a2.le; omega
 have p3 : q3.1.pos ≤ s.size := by have := a3.le; omega
 have p5 : q5.1.pos ≤ s.size := by have := a5.le; omega
 clear a0 a1 a2 a3 a4 a5 f4 hse hs1
 have HH : Hid (ReaderAt w b s r nilS) := h
 obtain ⟨c0, c1, c2, c3, c4, fz⟩ := h
 have hb : b < w.heap.size := World.block_lt_of_cell? w _ c0
 have hbn : ¬ b = w.heap.size := by omega
 have hbn1 : ¬ b = w.heap.size + 1 := by omega
 go_enter Tryz.func160, Tryz.ntmps160
 go_wp2_with fail
 refine (take_any b s r nilS 94 _ (loc_start HH.out _ _ _ _ _ _ _ _ _ _).rd hs p0).mono ?_
 rw [H_r0.out]
 rintro e w1 ⟨rfl, hr1, hb1⟩
 have L1 := (loc_start HH.out _ _ _ _ _ _ _ _ _ _).call hr1 hb1
 have HL1 : Hid _ := L1
 clear c0 c1 c2 c3 c4 fz hr1 hb1
 obtain ⟨rd, g0, g1, g2, g3, g4, g5, g6, g7, gf, h0, h1, h2, h3, h4, h5, h6, h7, hf, but, size, lt⟩ := L1
 clear rd but
 go_wp2_with fail
 refine (takeName_any b s r0 nilS _ HL1.out.rd hs p00).mono ?_
 rw [H_q1.out]
 rintro e w2 ⟨rfl, hr2, hb2⟩
 have L2 := HL1.out.call hr2 hb2
 have HL2 : Hid _ := L2
 clear HL1 g0 g1 g2 g3 g4 g5 g6 g7 gf h0 h1 h2 h3 h4 h5 h6 h7 hf size lt hr2 hb2
 obtain ⟨rd, g0, g1, g2, g3, g4, g5, g6, g7, gf, h0, h1, h2, h3, h4, h5, h6, h7, hf, but, size, lt⟩ := L2
 clear rd but
 go_wp2_with fail
 refine (take_any b s q1.1 nilS 58 _ (HL2.out.set2 _).rd hs p1).mono ?_
 rw [H_r2.out]
 rintro e w3 ⟨rfl, hr3, hb3⟩
 have L3 := (HL2.out.set2 _).call hr3 hb3
 have HL3 : Hid _ := L3
 clear HL2 g0 g1 g2 g3 g4 g5 g6 g7 gf h0 h1 h2 h3 h4 h5 h6 h7 hf size lt hr3 hb3
 obtain ⟨rd, g0, g1, g2, g3, g4, g5, g6, g7, gf, h0, h1, h2, h3, h4, h5, h6, h7, hf, but, size, lt⟩ := L3
 clear rd but
 go_wp2_with fail
 refine (label_rd b s r2 nilS _ HL3.out.rd hs p2).mono ?_
 rw [H_q3.out]
 rintro e w4 ⟨rfl, hr4, hb4⟩
 have L4 := HL3.out.call hr4 hb4
 have HL4 : Hid _ := L4
 clear HL3 g0 g1 g2 g3 g4 g5 g6 g7 gf h0 h1 h2 h3 h4 h5 h6 h7 hf size lt hr4 hb4
 obtain ⟨rd, g0, g1, g2, g3, g4, g5, g6, g7, gf, h0, h1, h2, h3, h4, h5, h6, h7, hf, but, size, lt⟩ := L4
 clear rd but
 go_wp2_with fail
 refine (take_any b s q3.1 nilS 61 _ (HL4.out.set3 _).rd hs p3).mono ?_
 rw [H_r4.out]
 rintro e w5 ⟨rfl, hr5, hb5⟩
 have L5 := (HL4.out.set3 _).call hr5 hb5
 have HL5 : Hid _ := L5
 clear HL4 g0 g1 g2 g3 g4 g5 g6 g7 gf h0 h1 h2 h3 h4 h5 h6 h7 hf size lt hr5 hb5
 obtain ⟨rd, g0, g1, g2, g3, g4, g5, g6, g7, gf, h0, h1, h2, h3, h4, h5, h6, h7, hf, but, size, lt⟩ := L5
 clear rd but
 go_wp2_with fail
 refine (takeExpr_any s hs b r4 nilS _ HL5.out.rd F4.out).mono ?_
 rw [H_q5.out]
 rintro e w6 ⟨ve, rfl, hr6, ho6, hb6⟩
 have L6 := HL5.out.call hr6 hb6
 have HL6 : Hid _ := L6
 have hve := Joins.ownsRow_forms ho6
 have PE_6 : Hid (PartsV w6 (Past w) ve q5.2) := ⟨own_mono ho6 (Nat.zero_le _), fun k hk => by have j1 := (ho6.lt k hk).1; have j2 := HL5.out.size; (try simp at j1); unfold Past; omega⟩
 clear ho6
 clear HL5 g0 g1 g2 g3 g4 g5 g6 g7 gf h0 h1 h2 h3 h4 h5 h6 h7 hf size lt hr6 hb6
 obtain ⟨rd, g0, g1, g2, g3, g4, g5, g6, g7, gf, h0, h1, h2, h3, h4, h5, h6, h7, hf, but, size, lt⟩ := L6
 clear rd but
 obtain ⟨aa, nn, cc, hvv⟩ : ∃ aa nn cc, ve = .slice aa nn cc := by
  rcases hve with ⟨rfl, _⟩ | ⟨g, cap, rfl⟩ <;> exact ⟨_, _, _, rfl⟩
 subst hvv
 clear hve
 go_wp2_with fail
 refine (take_any b s q5.1 nilS 59 _ (HL6.out.set5 _).rd hs p5).mono ?_
 rintro e w7 ⟨rfl, hr7, hb7⟩
 have L7 := (HL6.out.set5 _).call hr7 hb7
 have HL7 : Hid _ := L7
 have PE_7 : Hid _ := partsV_but (partsV_set PE_6.out _ _ (fun k hk => by unfold Past at hk; simp only; omega)) hb7 (fun k hk => by unfold Past at hk; omega)
 clear PE_6
 clear HL6 g0 g1 g2 g3 g4 g5 g6 g7 gf h0 h1 h2 h3 h4 h5 h6 h7 hf size lt hr7 hb7
 obtain ⟨rd, g0, g1, g2, g3, g4, g5, g6, g7, gf, h0, h1, h2, h3, h4, h5, h6, h7, hf, but, size, lt⟩ := L7
 clear rd but
 go_wp2_with fail
 refine bodyPost_ret (v := .agg #[.int .i64 1, .int .i64 r.pos, .int .i64 q1.2, .int .i64 q3.2, .int .i64 0, .slice aa nn cc, .slice none 0 0, .slice none 0 0]) (by simp [results, Tryz.results160, go_sem, g0, g1, g2, g3, g4, g5, g6, g7, h0, h1, h2, h3, h4, h5, h6, h7, gf, hf]) rfl ?_
 obtain ⟨e1, e2, e3, e4⟩ := loc_end HL7.out (.int .i64 1) (.int .i64 r.pos) (.int .i64 q1.2) (.int .i64 q3.2) (.int .i64 0) (.slice aa nn cc) (.slice none 0 0) (.slice none 0 0)
 exact ⟨[.int .i64 1, .int .i64 r.pos, .int .i64 q1.2, .int .i64 q3.2, .int .i64 0, .slice aa nn cc, .slice none 0 0, .slice none 0 0], rfl, ⟨_, _, _, rfl, e3 _ _ PE_7.out, rulesV_nil _ _ _, rulesV_nil _ _ _⟩, e1, e2⟩
set_option maxHeartbeats 1000000 in
theorem tellRule_any (s : ByteArray) (hs : s.size ≤ 400) (b : Nat) (r : Rd) (w : World) (h : ReaderAt w b s r nilS) (f : FitB s.data.toList r) (n : Nat) (hs1 : r.seesOne s.data.toList 97 122 = false) (hs2 : r.seesOne s.data.toList 94 94 = false) (hse : r.seesOne s.data.toList 62 62 = true) :
  Calls Tryz.prog 161 #[.pointer (some ⟨b, 0, none⟩)] w fun e w' => ∃ cs, e = .returned (.agg cs.toArray) ∧ RuleV n w' (fun k => w.heap.size ≤ k) cs (ruleF s.data.toList n r).2 ∧ ReaderAt w' b s (ruleF s.data.toList n r).1 nilS ∧ But b w w' := by
 unfold ruleF ruleU
 rw [if_neg (by rw [hs1]; decide), if_neg (by rw [hs2]; decide), if_pos hse]
 simp only
 have hsl : s.data.toList.length = s.size := by simp
 have p0 : r.pos ≤ s.size := by have := f.le; omega
 have a0 := takeOne_stp 62 62 f.le
 have a3 := label_stp a0.le
 have f4 := (a0.trans a3).fitB f |>.fitR
 have a5 := expr_stp f4
 generalize hh_r0 : (r.takeOne s.data.toList 62 62).1 = r0 at *
 have H_r0 : Hid ((r.takeOne s.data.toList 62 62).1 = r0) := hh_r0
 clear hh_r0
 generalize hh_q3 : r0.label s.data.toList = q3 at *
 have H_q3 : Hid (r0.label s.data.toList = q3) := hh_q3
 clear hh_q3
 generalize hh_q5 : exprU s.data.toList q3.1 = q5 at *
 have H_q5 : Hid (exprU s.data.toList q3.1 = q5) := hh_q5
 clear hh_q5
 have F4 : Hid (FitR s.data.toList q3.1) := f4
 have p00 : r0.pos ≤ s.size := by have := a0.le; omega
 have p5 : q5.1.pos ≤ s.size := by have := a5.le; omega
 clear a0 a3 a5 f4 hse hs1 hs2
 have HH : Hid (ReaderAt w b s r nilS) := h
 obtain ⟨c0, c1, c2, c3, c4, fz⟩ := h
 have hb : b < w.heap.size := World.block_lt_of_cell? w _ c0
 have hbn : ¬ b = w.heap.size := by omega
 have hbn1 : ¬ b = w.heap.size + 1 := by omega
 go_enter Tryz.func161, Tryz.ntmps161
 go_wp2_with fail
 refine (take_any b s r nilS 62 _ (loc_start HH.out _ _ _ _ _ _ _ _ _ _).rd hs p0).mono ?_
 rw [H_r0.out]
 rintro e w1 ⟨rfl, hr1, hb1⟩
 have L1 := (loc_start HH.out _ _ _ _ _ _ _ _ _ _).call hr1 hb1
 have HL1 : Hid _ := L1
 clear c0 c1 c2 c3 c4 fz hr1 hb1
 obtain ⟨rd, g0, g1, g2, g3, g4, g5, g6, g7, gf, h0, h1, h2, h3, h4, h5, h6, h7, hf, but, size, lt⟩ := L1
 clear rd but
 go_wp2_with fail
 refine (label_rd b s r0 nilS _ HL1.out.rd hs p00).mono ?_
 rw [H_q3.out]
 rintro e w2 ⟨rfl, hr2, hb2⟩
 have L2 := HL1.out.call hr2 hb2
 have HL2 : Hid _ := L2
 clear HL1 g0 g1 g2 g3 g4 g5 g6 g7 gf h0 h1 h2 h3 h4 h5 h6 h7 hf size lt hr2 hb2
 obtain ⟨rd, g0, g1, g2, g3, g4, g5, g6, g7, gf, h0, h1, h2, h3, h4, h5, h6, h7, hf, but, size, lt⟩ := L2
 clear rd but
 go_wp2_with fail
 refine (takeExpr_any s hs b q3.1 nilS _ (HL2.out.set3 _).rd F4.out).mono ?_
 rw [H_q5.out]
 rintro e w3 ⟨ve, rfl, hr3, ho3, hb3⟩
 have L3 := (HL2.out.set3 _).call hr3 hb3
 have HL3 : Hid _ := L3
 have hve := Joins.ownsRow_forms ho3
 have PE_3 : Hid (PartsV w3 (Past w) ve q5.2) := ⟨own_mono ho3 (Nat.zero_le _), fun k hk => by have j1 := (ho3.lt k hk).1; have j2 := HL2.out.size; (try simp at j1); unfold Past; omega⟩
 clear ho3
 clear HL2 g0 g1 g2 g3 g4 g5 g6 g7 gf h0 h1 h2 h3 h4 h5 h6 h7 hf size lt hr3 hb3
 obtain ⟨rd, g0, g1, g2, g3, g4, g5, g6, g7, gf, h0, h1, h2, h3, h4, h5, h6, h7, hf, but, size, lt⟩ := L3
 clear rd but
 obtain ⟨aa, nn, cc, hvv⟩ : ∃ aa nn cc, ve = .slice aa nn cc := by
  rcases hve with ⟨rfl, _⟩ | ⟨g, cap, rfl⟩ <;> exact ⟨_, _, _, rfl⟩
 subst hvv
 clear hve
 go_wp2_with fail
 refine (take_any b s q5.1 nilS 59 _ (HL3.out.set5 _).rd hs p5).mono ?_
 rintro e w4 ⟨rfl, hr4, hb4⟩
 have L4 := (HL3.out.set5 _).call hr4 hb4
 have HL4 : Hid _ := L4
 have PE_4 : Hid _ := partsV_but (partsV_set PE_3.out _ _ (fun k hk => by unfold Past at hk; simp only; omega)) hb4 (fun k hk => by unfold Past at hk; omega)
 clear PE_3
 clear HL3 g0 g1 g2 g3 g4 g5 g6 g7 gf h0 h1 h2 h3 h4 h5 h6 h7 hf size lt hr4 hb4
 obtain ⟨rd, g0, g1, g2, g3, g4, g5, g6, g7, gf, h0, h1, h2, h3, h4, h5, h6, h7, hf, but, size, lt⟩ := L4
 clear rd but
 go_wp2_with fail
 refine bodyPost_ret (v := .agg #[.int .i64 2, .int .i64 r.pos, .int .i64 0, .int .i64 q3.2, .int .i64 0, .slice aa nn cc, .slice none 0 0, .slice none 0 0]) (by simp [results, Tryz.results161, go_sem, g0, g1, g2, g3, g4, g5, g6, g7, h0, h1, h2, h3, h4, h5, h6, h7, gf, hf]) rfl ?_
 obtain ⟨e1, e2, e3, e4⟩ := loc_end HL4.out (.int .i64 2) (.int .i64 r.pos) (.int .i64 0) (.int .i64 q3.2) (.int .i64 0) (.slice aa nn cc) (.slice none 0 0) (.slice none 0 0)
 exact ⟨[.int .i64 2, .int .i64 r.pos, .int .i64 0, .int .i64 q3.2, .int .i64 0, .slice aa nn cc, .slice none 0 0, .slice none 0 0], rfl, ⟨_, _, _, rfl, e3 _ _ PE_4.out, rulesV_nil _ _ _, rulesV_nil _ _ _⟩, e1, e2⟩
set_option maxHeartbeats 1000000 in
theorem condRule1_any (s : ByteArray) (hs : s.size ≤ 400) (b : Nat) (r : Rd) (w : World) (h : ReaderAt w b s r nilS) (f : FitB s.data.toList r) (n : Nat) (hB : BlkCalls s n) (hn : 8 ≤ r.depth + n) (hs1 : r.seesOne s.data.toList 97 122 = false) (hs2 : r.seesOne s.data.toList 94 94 = false) (hs3 : r.seesOne s.data.toList 62 62 = false) (hse : r.seesOne s.data.toList 40 40 = true)
  (hsec : (blockF s.data.toList n ((exprU s.data.toList (r.opening s.data.toList 40)).1.closing s.data.toList 41)).1.seesOne s.data.toList 123 123 = false) :
  Calls Tryz.prog 162 #[.pointer (some ⟨b, 0, none⟩)] w fun e w' => ∃ cs, e = .returned (.agg cs.toArray) ∧ RuleV n w' (fun k => w.heap.size ≤ k) cs (ruleF s.data.toList n r).2 ∧ ReaderAt w' b s (ruleF s.data.toList n r).1 nilS ∧ But b w w' := by
 unfold ruleF ruleU
 rw [if_neg (by rw [hs1]; decide), if_neg (by rw [hs2]; decide), if_neg (by rw [hs3]; decide), if_pos hse]
 simp only
 rw [if_neg (by rw [hsec]; decide)]
 have hsl : s.data.toList.length = s.size := by simp
 have p0 : r.pos ≤ s.size := by have := f.le; omega
 have d0 := f.d0
 have d8 := f.d8
 have f1 := opening_fitR 40 f
 have a2 := expr_stp f1
 have a3 := pair_stp 40 41 f a2
 have f3 := a3.fitB f
 have a4 := blockF_stp s.data.toList n _ f3
 have f4 := a4.fitB f3
 have o3 := (opening_facts 40 f.le).2.2.1
 have e3 := a2.depth
 have e4 := a4.depth
 generalize hh_r1 : r.opening s.data.toList 40 = r1 at *
 have H_r1 : Hid (r.opening s.data.toList 40 = r1) := hh_r1
 clear hh_r1
 generalize hh_q2 : exprU s.data.toList r1 = q2 at *
 have H_q2 : Hid (exprU s.data.toList r1 = q2) := hh_q2
 clear hh_q2
 generalize hh_r3 : q2.1.closing s.data.toList 41 = r3 at *
 have H_r3 : Hid (q2.1.closing s.data.toList 41 = r3) := hh_r3
 clear hh_r3
 generalize hh_q4 : blockF s.data.toList n r3 = q4 at *
 have H_q4 : Hid (blockF s.data.toList n r3 = q4) := hh_q4
 clear hh_q4
 have F1 : Hid (FitR s.data.toList r1) := f1
 have F3 : Hid (FitB s.data.toList r3) := f3
 have F4 : Hid (FitB s.data.toList q4.1) := f4
 have HB : Hid (BlkCalls s n) := hB
 have d3 : r3.depth = r.depth := a3.depth
 have p2 : q2.1.pos ≤ s.size := by have := a2.le; omega
 have p4 : q4.1.pos ≤ s.size := by have := a4.le; omega
 clear a2 a3 a4 f1 f3 f4 hse hs1 hs2 hs3 hB
 have HH : Hid (ReaderAt w b s r nilS) := h
 obtain ⟨c0, c1, c2, c3, c4, fz⟩ := h
 have hb : b < w.heap.size := World.block_lt_of_cell? w _ c0
 have hbn : ¬ b = w.heap.size := by omega
 have hbn1 : ¬ b = w.heap.size + 1 := by omega
 go_enter Tryz.func162, Tryz.ntmps162
 go_wp2_with fail
 refine (opening_any b s r nilS 40 _ (loc_start HH.out _ _ _ _ _ _ _ _ _ _).rd hs p0 (by omega) (by omega)).mono ?_
 rw [H_r1.out]
 rintro e w1 ⟨rfl, hr1, hb1⟩
 have L1 := (loc_start HH.out _ _ _ _ _ _ _ _ _ _).call hr1 hb1
 have HL1 : Hid _ := L1
 clear c0 c1 c2 c3 c4 fz hr1 hb1
 obtain ⟨rd, g0, g1, g2, g3, g4, g5, g6, g7, gf, h0, h1, h2, h3, h4, h5, h6, h7, hf, but, size, lt⟩ := L1
 clear rd but
 go_wp2_with fail
 refine (takeExpr_any s hs b r1 nilS _ HL1.out.rd F1.out).mono ?_
 rw [H_q2.out]
 rintro e w2 ⟨ve, rfl, hr2, ho2, hb2⟩
 have L2 := HL1.out.call hr2 hb2
 have HL2 : Hid _ := L2
 have hve := Joins.ownsRow_forms ho2
 have PE_2 : Hid (PartsV w2 (Past w) ve q2.2) := ⟨own_mono ho2 (Nat.zero_le _), fun k hk => by have j1 := (ho2.lt k hk).1; have j2 := HL1.out.size; (try simp at j1); unfold Past; omega⟩
 clear ho2
 clear HL1 g0 g1 g2 g3 g4 g5 g6 g7 gf h0 h1 h2 h3 h4 h5 h6 h7 hf size lt hr2 hb2
 obtain ⟨rd, g0, g1, g2, g3, g4, g5, g6, g7, gf, h0, h1, h2, h3, h4, h5, h6, h7, hf, but, size, lt⟩ := L2
 clear rd but
 obtain ⟨aa, nn, cc, hvv⟩ : ∃ aa nn cc, ve = .slice aa nn cc := by
  rcases hve with ⟨rfl, _⟩ | ⟨g, cap, rfl⟩ <;> exact ⟨_, _, _, rfl⟩
 subst hvv
 clear hve
 go_wp2_with fail
 refine (closing_any b s q2.1 nilS 41 _ (HL2.out.set5 _).rd hs p2 (by omega) (by omega)).mono ?_
 rw [H_r3.out]
 rintro e w3 ⟨rfl, hr3, hb3⟩
 have L3 := (HL2.out.set5 _).call hr3 hb3
 have HL3 : Hid _ := L3
 have PE_3 : Hid _ := partsV_but (partsV_set PE_2.out _ _ (fun k hk => by unfold Past at hk; simp only; omega)) hb3 (fun k hk => by unfold Past at hk; omega)
 clear PE_2
 clear HL2 g0 g1 g2 g3 g4 g5 g6 g7 gf h0 h1 h2 h3 h4 h5 h6 h7 hf size lt hr3 hb3
 obtain ⟨rd, g0, g1, g2, g3, g4, g5, g6, g7, gf, h0, h1, h2, h3, h4, h5, h6, h7, hf, but, size, lt⟩ := L3
 clear rd but
 go_wp2_with fail
 refine (HB.out b r3 _ HL3.out.rd F3.out (by omega)).mono ?_
 rw [H_q4.out]
 rintro e w4 ⟨vb4, rfl, hv4, hr4, hb4⟩
 have L4 := HL3.out.call hr4 hb4
 have HL4 : Hid _ := L4
 have hvf := rulesV_form hv4
 have BA_4 : Hid (RulesV n w4 (Past w) vb4 q4.2) := rulesV_mono hv4 (fun k hk => by have j2 := HL3.out.size; (try simp at hk); unfold Past; omega)
 clear hv4
 have PE_4 : Hid _ := partsV_but PE_3.out hb4 (fun k hk => by unfold Past at hk; omega)
 clear PE_3
 clear HL3 g0 g1 g2 g3 g4 g5 g6 g7 gf h0 h1 h2 h3 h4 h5 h6 h7 hf size lt hr4 hb4
 obtain ⟨rd, g0, g1, g2, g3, g4, g5, g6, g7, gf, h0, h1, h2, h3, h4, h5, h6, h7, hf, but, size, lt⟩ := L4
 clear rd but
 obtain ⟨aa4, nn4, cc4, hvv⟩ := hvf
 subst hvv
 go_wp2_with fail
 refine (sees_but b s q4.1 nilS 123 _ (HL4.out.set6 _).rd hs p4).mono ?_
 rw [hsec]
 rintro e w5 ⟨rfl, hr5, hb5⟩
 have L5 := (HL4.out.set6 _).call hr5 hb5
 have HL5 : Hid _ := L5
 have PE_5 : Hid _ := partsV_but (partsV_set PE_4.out _ _ (fun k hk => by unfold Past at hk; simp only; omega)) hb5 (fun k hk => by unfold Past at hk; omega)
 have BA_5 : Hid _ := rulesV_but (rulesV_set BA_4.out _ _ (fun k hk => by unfold Past at hk; simp only; omega)) hb5 (fun k hk => by unfold Past at hk; omega)
 clear PE_4
 clear BA_4
 clear HL4 g0 g1 g2 g3 g4 g5 g6 g7 gf h0 h1 h2 h3 h4 h5 h6 h7 hf size lt hr5 hb5
 obtain ⟨rd, g0, g1, g2, g3, g4, g5, g6, g7, gf, h0, h1, h2, h3, h4, h5, h6, h7, hf, but, size, lt⟩ := L5
 clear rd but
 go_wp2_with fail
 refine bodyPost_ret (v := .agg #[.int .i64 3, .int .i64 r.pos, .int .i64 0, .int .i64 0, .int .i64 0, .slice aa nn cc, .slice aa4 nn4 cc4, .slice none 0 0]) (by simp [results, Tryz.results162, go_sem, g0, g1, g2, g3, g4, g5, g6, g7, h0, h1, h2, h3, h4, h5, h6, h7, gf, hf]) rfl ?_
 obtain ⟨e1, e2, e3, e4⟩ := loc_end HL5.out (.int .i64 3) (.int .i64 r.pos) (.int .i64 0) (.int .i64 0) (.int .i64 0) (.slice aa nn cc) (.slice aa4 nn4 cc4) (.slice none 0 0)
 exact ⟨[.int .i64 3, .int .i64 r.pos, .int .i64 0, .int .i64 0, .int .i64 0, .slice aa nn cc, .slice aa4 nn4 cc4, .slice none 0 0], rfl, ⟨_, _, _, rfl, e3 _ _ PE_5.out, e4 _ _ _ BA_5.out, rulesV_nil _ _ _⟩, e1, e2⟩
set_option maxHeartbeats 1000000 in
theorem condRule2_any (s : ByteArray) (hs : s.size ≤ 400) (b : Nat) (r : Rd) (w : World) (h : ReaderAt w b s r nilS) (f : FitB s.data.toList r) (n : Nat) (hB : BlkCalls s n) (hn : 8 ≤ r.depth + n) (hs1 : r.seesOne s.data.toList 97 122 = false) (hs2 : r.seesOne s.data.toList 94 94 = false) (hs3 : r.seesOne s.data.toList 62 62 = false) (hse : r.seesOne s.data.toList 40 40 = true)
  (hsec : (blockF s.data.toList n ((exprU s.data.toList (r.opening s.data.toList 40)).1.closing s.data.toList 41)).1.seesOne s.data.toList 123 123 = true) :
  Calls Tryz.prog 162 #[.pointer (some ⟨b, 0, none⟩)] w fun e w' => ∃ cs, e = .returned (.agg cs.toArray) ∧ RuleV n w' (fun k => w.heap.size ≤ k) cs (ruleF s.data.toList n r).2 ∧ ReaderAt w' b s (ruleF s.data.toList n r).1 nilS ∧ But b w w' := by
 unfold ruleF ruleU
 rw [if_neg (by rw [hs1]; decide), if_neg (by rw [hs2]; decide), if_neg (by rw [hs3]; decide), if_pos hse]
 simp only
 rw [if_pos hsec]
 have hsl : s.data.toList.length = s.size := by simp
 have p0 : r.pos ≤ s.size := by have := f.le; omega
 have d0 := f.d0
 have d8 := f.d8
 have f1 := opening_fitR 40 f
 have a2 := expr_stp f1
 have a3 := pair_stp 40 41 f a2
 have f3 := a3.fitB f
 have a4 := blockF_stp s.data.toList n _ f3
 have f4 := a4.fitB f3
 have o3 := (opening_facts 40 f.le).2.2.1
 have e3 := a2.depth
 have e4 := a4.depth
 generalize hh_r1 : r.opening s.data.toList 40 = r1 at *
 have H_r1 : Hid (r.opening s.data.toList 40 = r1) := hh_r1
 clear hh_r1
 generalize hh_q2 : exprU s.data.toList r1 = q2 at *
 have H_q2 : Hid (exprU s.data.toList r1 = q2) := hh_q2
 clear hh_q2
 generalize hh_r3 : q2.1.closing s.data.toList 41 = r3 at *
 have H_r3 : Hid (q2.1.closing s.data.toList 41 = r3) := hh_r3
 clear hh_r3
 generalize hh_q4 : blockF s.data.toList n r3 = q4 at *
 have H_q4 : Hid (blockF s.data.toList n r3 = q4) := hh_q4
 clear hh_q4
 have F1 : Hid (FitR s.data.toList r1) := f1
 have F3 : Hid (FitB s.data.toList r3) := f3
 have F4 : Hid (FitB s.data.toList q4.1) := f4
 have HB : Hid (BlkCalls s n) := hB
 have d3 : r3.depth = r.depth := a3.depth
 have p2 : q2.1.pos ≤ s.size := by have := a2.le; omega
 have p4 : q4.1.pos ≤ s.size := by have := a4.le; omega
 clear a2 a3 a4 f1 f3 f4 hse hs1 hs2 hs3 hB
 have HH : Hid (ReaderAt w b s r nilS) := h
 obtain ⟨c0, c1, c2, c3, c4, fz⟩ := h
 have hb : b < w.heap.size := World.block_lt_of_cell? w _ c0
 have hbn : ¬ b = w.heap.size := by omega
 have hbn1 : ¬ b = w.heap.size + 1 := by omega
 go_enter Tryz.func162, Tryz.ntmps162
 go_wp2_with fail
 refine (opening_any b s r nilS 40 _ (loc_start HH.out _ _ _ _ _ _ _ _ _ _).rd hs p0 (by omega) (by omega)).mono ?_
 rw [H_r1.out]
 rintro e w1 ⟨rfl, hr1, hb1⟩
 have L1 := (loc_start HH.out _ _ _ _ _ _ _ _ _ _).call hr1 hb1
 have HL1 : Hid _ := L1
 clear c0 c1 c2 c3 c4 fz hr1 hb1
 obtain ⟨rd, g0, g1, g2, g3, g4, g5, g6, g7, gf, h0, h1, h2, h3, h4, h5, h6, h7, hf, but, size, lt⟩ := L1
 clear rd but
 go_wp2_with fail
 refine (takeExpr_any s hs b r1 nilS _ HL1.out.rd F1.out).mono ?_
 rw [H_q2.out]
 rintro e w2 ⟨ve, rfl, hr2, ho2, hb2⟩
 have L2 := HL1.out.call hr2 hb2
 have HL2 : Hid _ := L2
 have hve := Joins.ownsRow_forms ho2
 have PE_2 : Hid (PartsV w2 (Past w) ve q2.2) := ⟨own_mono ho2 (Nat.zero_le _), fun k hk => by have j1 := (ho2.lt k hk).1; have j2 := HL1.out.size; (try simp at j1); unfold Past; omega⟩
 clear ho2
 clear HL1 g0 g1 g2 g3 g4 g5 g6 g7 gf h0 h1 h2 h3 h4 h5 h6 h7 hf size lt hr2 hb2
 obtain ⟨rd, g0, g1, g2, g3, g4, g5, g6, g7, gf, h0, h1, h2, h3, h4, h5, h6, h7, hf, but, size, lt⟩ := L2
 clear rd but
 obtain ⟨aa, nn, cc, hvv⟩ : ∃ aa nn cc, ve = .slice aa nn cc := by
  rcases hve with ⟨rfl, _⟩ | ⟨g, cap, rfl⟩ <;> exact ⟨_, _, _, rfl⟩
 subst hvv
 clear hve
 go_wp2_with fail
 refine (closing_any b s q2.1 nilS 41 _ (HL2.out.set5 _).rd hs p2 (by omega) (by omega)).mono ?_
 rw [H_r3.out]
 rintro e w3 ⟨rfl, hr3, hb3⟩
 have L3 := (HL2.out.set5 _).call hr3 hb3
 have HL3 : Hid _ := L3
 have PE_3 : Hid _ := partsV_but (partsV_set PE_2.out _ _ (fun k hk => by unfold Past at hk; simp only; omega)) hb3 (fun k hk => by unfold Past at hk; omega)
 clear PE_2
 clear HL2 g0 g1 g2 g3 g4 g5 g6 g7 gf h0 h1 h2 h3 h4 h5 h6 h7 hf size lt hr3 hb3
 obtain ⟨rd, g0, g1, g2, g3, g4, g5, g6, g7, gf, h0, h1, h2, h3, h4, h5, h6, h7, hf, but, size, lt⟩ := L3
 clear rd but
 go_wp2_with fail
 refine (HB.out b r3 _ HL3.out.rd F3.out (by omega)).mono ?_
 rw [H_q4.out]
 rintro e w4 ⟨vb4, rfl, hv4, hr4, hb4⟩
 have L4 := HL3.out.call hr4 hb4
 have HL4 : Hid _ := L4
 have hvf := rulesV_form hv4
 have BA_4 : Hid (RulesV n w4 (Past w) vb4 q4.2) := rulesV_mono hv4 (fun k hk => by have j2 := HL3.out.size; (try simp at hk); unfold Past; omega)
 clear hv4
 have PE_4 : Hid _ := partsV_but PE_3.out hb4 (fun k hk => by unfold Past at hk; omega)
 clear PE_3
 clear HL3 g0 g1 g2 g3 g4 g5 g6 g7 gf h0 h1 h2 h3 h4 h5 h6 h7 hf size lt hr4 hb4
 obtain ⟨rd, g0, g1, g2, g3, g4, g5, g6, g7, gf, h0, h1, h2, h3, h4, h5, h6, h7, hf, but, size, lt⟩ := L4
 clear rd but
 obtain ⟨aa4, nn4, cc4, hvv⟩ := hvf
 subst hvv
 go_wp2_with fail
 refine (sees_but b s q4.1 nilS 123 _ (HL4.out.set6 _).rd hs p4).mono ?_
 rw [hsec]
 rintro e w5 ⟨rfl, hr5, hb5⟩
 have L5 := (HL4.out.set6 _).call hr5 hb5
 have HL5 : Hid _ := L5
 have PE_5 : Hid _ := partsV_but (partsV_set PE_4.out _ _ (fun k hk => by unfold Past at hk; simp only; omega)) hb5 (fun k hk => by unfold Past at hk; omega)
 have BA_5 : Hid _ := rulesV_but (rulesV_set BA_4.out _ _ (fun k hk => by unfold Past at hk; simp only; omega)) hb5 (fun k hk => by unfold Past at hk; omega)
 clear PE_4
 clear BA_4
 clear HL4 g0 g1 g2 g3 g4 g5 g6 g7 gf h0 h1 h2 h3 h4 h5 h6 h7 hf size lt hr5 hb5
 obtain ⟨rd, g0, g1, g2, g3, g4, g5, g6, g7, gf, h0, h1, h2, h3, h4, h5, h6, h7, hf, but, size, lt⟩ := L5
 clear rd but
 go_wp2_with fail
 refine (HB.out b q4.1 _ HL5.out.rd F4.out (by omega)).mono ?_
 rintro e w6 ⟨vb6, rfl, hv6, hr6, hb6⟩
 have L6 := HL5.out.call hr6 hb6
 have HL6 : Hid _ := L6
 have hvf := rulesV_form hv6
 have BB_6 : Hid (RulesV n w6 (Past w) vb6 (blockF s.data.toList n q4.1).2) := rulesV_mono hv6 (fun k hk => by have j2 := HL5.out.size; (try simp at hk); unfold Past; omega)
 clear hv6
 have PE_6 : Hid _ := partsV_but PE_5.out hb6 (fun k hk => by unfold Past at hk; omega)
 have BA_6 : Hid _ := rulesV_but BA_5.out hb6 (fun k hk => by unfold Past at hk; omega)
 clear PE_5
 clear BA_5
 clear HL5 g0 g1 g2 g3 g4 g5 g6 g7 gf h0 h1 h2 h3 h4 h5 h6 h7 hf size lt hr6 hb6
 obtain ⟨rd, g0, g1, g2, g3, g4, g5, g6, g7, gf, h0, h1, h2, h3, h4, h5, h6, h7, hf, but, size, lt⟩ := L6
 clear rd but
 obtain ⟨aa6, nn6, cc6, hvv⟩ := hvf
 subst hvv
 go_wp2_with fail
 refine bodyPost_ret (v := .agg #[.int .i64 3, .int .i64 r.pos, .int .i64 0, .int .i64 0, .int .i64 0, .slice aa nn cc, .slice aa4 nn4 cc4, .slice aa6 nn6 cc6]) (by simp [results, Tryz.results162, go_sem, g0, g1, g2, g3, g4, g5, g6, g7, h0, h1, h2, h3, h4, h5, h6, h7, gf, hf]) rfl ?_
 obtain ⟨e1, e2, e3, e4⟩ := loc_end (HL6.out.set7 _) (.int .i64 3) (.int .i64 r.pos) (.int .i64 0) (.int .i64 0) (.int .i64 0) (.slice aa nn cc) (.slice aa4 nn4 cc4) (.slice aa6 nn6 cc6)
 exact ⟨[.int .i64 3, .int .i64 r.pos, .int .i64 0, .int .i64 0, .int .i64 0, .slice aa nn cc, .slice aa4 nn4 cc4, .slice aa6 nn6 cc6], rfl, ⟨_, _, _, rfl, e3 _ _ (partsV_set PE_6.out _ _ (fun k hk => by unfold Past at hk; simp only; omega)), e4 _ _ _ (rulesV_set BA_6.out _ _ (fun k hk => by unfold Past at hk; simp only; omega)), e4 _ _ _ (rulesV_set BB_6.out _ _ (fun k hk => by unfold Past at hk; simp only; omega))⟩, e1, e2⟩
set_option maxHeartbeats 1000000 in
theorem loopRule_any (s : ByteArray) (hs : s.size ≤ 400) (b : Nat) (r : Rd) (w : World) (h : ReaderAt w b s r nilS) (f : FitB s.data.toList r) (n : Nat) (hB : BlkCalls s n) (hn : 8 ≤ r.depth + n) (hs1 : r.seesOne s.data.toList 97 122 = false) (hs2 : r.seesOne s.data.toList 94 94 = false) (hs3 : r.seesOne s.data.toList 62 62 = false) (hs4 : r.seesOne s.data.toList 40 40 = false) (hse : r.seesOne s.data.toList 42 42 = true) :
  Calls Tryz.prog 163 #[.pointer (some ⟨b, 0, none⟩)] w fun e w' => ∃ cs, e = .returned (.agg cs.toArray) ∧ RuleV n w' (fun k => w.heap.size ≤ k) cs (ruleF s.data.toList n r).2 ∧ ReaderAt w' b s (ruleF s.data.toList n r).1 nilS ∧ But b w w' := by
 unfold ruleF ruleU
 rw [if_neg (by rw [hs1]; decide), if_neg (by rw [hs2]; decide), if_neg (by rw [hs3]; decide), if_neg (by rw [hs4]; decide), if_pos hse]
 simp only
 have hsl : s.data.toList.length = s.size := by simp
 have p0 : r.pos ≤ s.size := by have := f.le; omega
 have a0 := room_stp (t := s.data.toList) f.le
 have a1 := takeOne_stp 42 42 a0.le
 have a2 := takeOne_stp 49 57 a1.le
 have f2 := ((a0.trans a1).trans a2).fitB f
 have e2 := ((a0.trans a1).trans a2).depth
 have cr := takeOne_range s.data.toList (r.room.takeOne s.data.toList 42 42).1 49 57
 generalize hh_r0 : r.room = r0 at *
 have H_r0 : Hid (r.room = r0) := hh_r0
 clear hh_r0
 generalize hh_r1 : (r0.takeOne s.data.toList 42 42).1 = r1 at *
 have H_r1 : Hid ((r0.takeOne s.data.toList 42 42).1 = r1) := hh_r1
 clear hh_r1
 generalize hh_q2 : r1.takeOne s.data.toList 49 57 = q2 at *
 have H_q2 : Hid (r1.takeOne s.data.toList 49 57 = q2) := hh_q2
 clear hh_q2
 have F2 : Hid (FitB s.data.toList q2.1) := f2
 have HB : Hid (BlkCalls s n) := hB
 have p00 : r0.pos ≤ s.size := by have := a0.le; omega
 have p1 : r1.pos ≤ s.size := by have := a1.le; omega
 obtain ⟨cr1, cr2⟩ := cr
 clear a0 a1 a2 f2 hse hs1 hs2 hs3 hs4 hB
 have HH : Hid (ReaderAt w b s r nilS) := h
 obtain ⟨c0, c1, c2, c3, c4, fz⟩ := h
 have hb : b < w.heap.size := World.block_lt_of_cell? w _ c0
 have hbn : ¬ b = w.heap.size := by omega
 have hbn1 : ¬ b = w.heap.size + 1 := by omega
 go_enter Tryz.func163, Tryz.ntmps163
 go_wp2_with fail
 refine (needRoom_any b s r nilS _ (loc_start HH.out _ _ _ _ _ _ _ _ _ _).rd).mono ?_
 rw [H_r0.out]
 rintro e w1 ⟨rfl, hr1, hb1⟩
 have L1 := (loc_start HH.out _ _ _ _ _ _ _ _ _ _).call hr1 hb1
 have HL1 : Hid _ := L1
 clear c0 c1 c2 c3 c4 fz hr1 hb1
 obtain ⟨rd, g0, g1, g2, g3, g4, g5, g6, g7, gf, h0, h1, h2, h3, h4, h5, h6, h7, hf, but, size, lt⟩ := L1
 clear rd but
 go_wp2_with fail
 refine (take_any b s r0 nilS 42 _ HL1.out.rd hs p00).mono ?_
 rw [H_r1.out]
 rintro e w2 ⟨rfl, hr2, hb2⟩
 have L2 := HL1.out.call hr2 hb2
 have HL2 : Hid _ := L2
 clear HL1 g0 g1 g2 g3 g4 g5 g6 g7 gf h0 h1 h2 h3 h4 h5 h6 h7 hf size lt hr2 hb2
 obtain ⟨rd, g0, g1, g2, g3, g4, g5, g6, g7, gf, h0, h1, h2, h3, h4, h5, h6, h7, hf, but, size, lt⟩ := L2
 clear rd but
 go_wp2_with fail
 refine (takeOne_any b s r1 nilS 49 57 _ HL2.out.rd hs p1).mono ?_
 rw [H_q2.out]
 rintro e w3 ⟨rfl, hr3, hb3⟩
 have L3 := HL2.out.call hr3 hb3
 have HL3 : Hid _ := L3
 clear HL2 g0 g1 g2 g3 g4 g5 g6 g7 gf h0 h1 h2 h3 h4 h5 h6 h7 hf size lt hr3 hb3
 obtain ⟨rd, g0, g1, g2, g3, g4, g5, g6, g7, gf, h0, h1, h2, h3, h4, h5, h6, h7, hf, but, size, lt⟩ := L3
 clear rd but
 go_wp2_with fail
 refine (HB.out b q2.1 _ (HL3.out.set4 _).rd F2.out (by omega)).mono ?_
 rintro e w4 ⟨vb4, rfl, hv4, hr4, hb4⟩
 have L4 := (HL3.out.set4 _).call hr4 hb4
 have HL4 : Hid _ := L4
 have hvf := rulesV_form hv4
 have BA_4 : Hid (RulesV n w4 (Past w) vb4 (blockF s.data.toList n q2.1).2) := rulesV_mono hv4 (fun k hk => by have j2 := HL3.out.size; (try simp at hk); unfold Past; omega)
 clear hv4
 clear HL3 g0 g1 g2 g3 g4 g5 g6 g7 gf h0 h1 h2 h3 h4 h5 h6 h7 hf size lt hr4 hb4
 obtain ⟨rd, g0, g1, g2, g3, g4, g5, g6, g7, gf, h0, h1, h2, h3, h4, h5, h6, h7, hf, but, size, lt⟩ := L4
 clear rd but
 obtain ⟨aa4, nn4, cc4, hvv⟩ := hvf
 subst hvv
 go_wp2_with fail
 refine bodyPost_ret (v := .agg #[.int .i64 4, .int .i64 r.pos, .int .i64 0, .int .i64 0, .int .i64 (1 + q2.2), .slice none 0 0, .slice aa4 nn4 cc4, .slice none 0 0]) (by simp [results, Tryz.results163, go_sem, g0, g1, g2, g3, g4, g5, g6, g7, h0, h1, h2, h3, h4, h5, h6, h7, gf, hf]) rfl ?_
 obtain ⟨e1, e2, e3, e4⟩ := loc_end (HL4.out.set6 _) (.int .i64 4) (.int .i64 r.pos) (.int .i64 0) (.int .i64 0) (.int .i64 (1 + q2.2)) (.slice none 0 0) (.slice aa4 nn4 cc4) (.slice none 0 0)
 exact ⟨[.int .i64 4, .int .i64 r.pos, .int .i64 0, .int .i64 0, .int .i64 (1 + q2.2), .slice none 0 0, .slice aa4 nn4 cc4, .slice none 0 0], rfl, ⟨_, _, _, rfl, partsV_nil _ _, e4 _ _ _ (rulesV_set BA_4.out _ _ (fun k hk => by unfold Past at hk; simp only; omega)), rulesV_nil _ _ _⟩, e1, e2⟩
end Go.Proofs.YtdgmoiflahoihaaGreatDoor
