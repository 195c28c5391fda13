import Derived.Test.YtdgmoiflahoihabGreatDoorRTopw

namespace Go.Proofs.YtdgmoiflahoihabGreatDoor
open Go.RowKit
set_option linter.unusedSimpArgs false
set_option linter.unusedVariables false
structure Hd where
 field : Bool
 place : Nat
 name : Int
 label : Nat
def hdV (h : Hd) : List Value := [.bool h.field, .int .i64 h.place, .int .i64 h.name, .int .i64 h.label]
def hdCells (l : List Hd) : List Value := l.flatMap hdV
theorem hdCells_app (l r : List Hd) : hdCells (l ++ r) = hdCells l ++ hdCells r := by simp [hdCells]
def headO (t : List UInt8) (r : Rd) : Rd := if r.seesOne t 63 63 then (r.takeOne t 63 63).1 else (r.takeOne t 33 33).1
def headU (t : List UInt8) (r : Rd) : Rd × Hd :=
 let nm := (headO t r).takeOne t 97 122
 let lb := (nm.1.takeOne t 58 58).1.label t
 ((lb.1.takeOne t 59 59).1, ⟨r.seesOne t 63 63, (headO t r).pos, nm.2, lb.2⟩)
def headsL (t : List UInt8) : Nat → Rd → Rd × List Hd
 | 0, r => (r, [])
 | k + 1, r => if r.seesOne t 63 63 || r.seesOne t 33 33 then ((headsL t k (headU t r).1).1, (headU t r).2 :: (headsL t k (headU t r).1).2) else (r, [])
theorem headO_stp {t : List UInt8} {r : Rd} (h : r.pos ≤ t.length) : Stp t r (headO t r) := by
 unfold headO
 split
 ·exact takeOne_stp _ _ h
 ·exact takeOne_stp _ _ h
theorem headU_stp {t : List UInt8} {r : Rd} (h : r.pos ≤ t.length) : Stp t r (headU t r).1 := by
 unfold headU
 have a := headO_stp h
 have b := a.trans (takeOne_stp 97 122 a.le)
 have c := b.trans (takeOne_stp 58 58 b.le)
 have d := c.trans (label_stp c.le)
 exact d.trans (takeOne_stp 59 59 d.le)
theorem headU_gt {t : List UInt8} {r : Rd} (hs : (r.seesOne t 63 63 || r.seesOne t 33 33) = true) : r.pos < (headU t r).1.pos := by
 have hlt : r.pos < t.length := by
  rcases Bool.or_eq_true_iff.mp hs with h | h <;> exact (sees_lt h).1
 have a := headO_stp (t := t) (r := r) (Nat.le_of_lt hlt)
 have b := takeOne_stp 97 122 a.le
 have c := b.trans (takeOne_stp 58 58 b.le)
 have d := c.trans (label_stp c.le)
 have e := d.trans (takeOne_stp 59 59 d.le)
 have g : r.pos + 1 ≤ (headO t r).pos := by
  unfold headO
  split
  ·rename_i h; exact takeOne_gt h
  ·rename_i h
   rcases Bool.or_eq_true_iff.mp hs with h2 | h2
   ·exact absurd h2 h
   ·exact takeOne_gt h2
 have := e.pos
 show r.pos < (Rd.takeOne t _ 59 59).1.pos
 omega
theorem headsL_stp {t : List UInt8} : ∀ (k : Nat) (r : Rd), r.pos ≤ t.length → Stp t r (headsL t k r).1
 | 0, r, h => stp_refl h
 | k + 1, r, h => by
  unfold headsL
  split
  ·have a := headU_stp h
   exact a.trans (headsL_stp k _ a.le)
  ·exact stp_refl h
structure LocH (W w : World) (b : Nat) (s : ByteArray) (r : Rd) (v0 v1 v2 v3 : Value) : Prop where
 rd : ReaderAt W b s r nilS
 g0 : W.cell? ⟨w.heap.size + 1, 0, none⟩ = some v0
 g1 : W.cell? ⟨w.heap.size + 1, 1, none⟩ = some v1
 g2 : W.cell? ⟨w.heap.size + 1, 2, none⟩ = some v2
 g3 : W.cell? ⟨w.heap.size + 1, 3, none⟩ = some v3
 gf : ∀ o, W.frozen? ⟨w.heap.size + 1, o, none⟩ = false
 h0 : W.cell? ⟨w.heap.size, 0, none⟩ = some (.bool false)
 h1 : W.cell? ⟨w.heap.size, 1, none⟩ = some (.int .i64 0)
 h2 : W.cell? ⟨w.heap.size, 2, none⟩ = some (.int .i64 0)
 h3 : W.cell? ⟨w.heap.size, 3, none⟩ = some (.int .i64 0)
 hf : ∀ o, W.frozen? ⟨w.heap.size, o, none⟩ = false
 but : But b w W
 size : w.heap.size + 2 ≤ W.heap.size
 lt : b < w.heap.size
theorem locH_start {w : World} {b : Nat} {s : ByteArray} {r : Rd} (h : ReaderAt w b s r nilS) (t t' : TypeId) (v0 v1 v2 v3 : Value) : LocH ((w.alloc (.cells #[.bool false, .int .i64 0, .int .i64 0, .int .i64 0] t)).alloc (.cells #[v0, v1, v2, v3] t')) w b s r v0 v1 v2 v3 := by
 have hb : b < w.heap.size := World.block_lt_of_cell? w _ h.c0
 refine ⟨readerAt_alloc (readerAt_alloc h _) _, ?_, ?_, ?_, ?_, fun o => ?_, ?_, ?_, ?_, ?_, fun o => ?_, ((But.refl b w).alloc _).alloc _, by simp, hb⟩
 all_goals simp [go_sem]
theorem LocH.call {W W' w : World} {b : Nat} {s : ByteArray} {r r' : Rd} {v0 v1 v2 v3 : Value} (L : LocH W w b s r v0 v1 v2 v3) (hr : ReaderAt W' b s r' nilS) (hb : But b W W') : LocH W' w b s r' v0 v1 v2 v3 := by
 have hs := L.size
 have hl := L.lt
 have k1 : W'.heap[w.heap.size + 1]? = W.heap[w.heap.size + 1]? := hb.block _ (by omega) (fun e => by cases e; omega)
 have k0 : W'.heap[w.heap.size]? = W.heap[w.heap.size]? := hb.block _ (by omega) (fun e => by cases e; omega)
 exact ⟨hr, (World.cell?_of_block (a := ⟨w.heap.size + 1, 0, none⟩) k1).trans L.g0, (World.cell?_of_block (a := ⟨w.heap.size + 1, 1, none⟩) k1).trans L.g1, (World.cell?_of_block (a := ⟨w.heap.size + 1, 2, none⟩) k1).trans L.g2, (World.cell?_of_block (a := ⟨w.heap.size + 1, 3, none⟩) k1).trans L.g3, fun o => (World.frozen?_of_block (a := ⟨w.heap.size + 1, o, none⟩) k1).trans (L.gf o), (World.cell?_of_block (a := ⟨w.heap.size, 0, none⟩) k0).trans L.h0, (World.cell?_of_block (a := ⟨w.heap.size, 1, none⟩) k0).trans L.h1, (World.cell?_of_block (a := ⟨w.heap.size, 2, none⟩) k0).trans L.h2, (World.cell?_of_block (a := ⟨w.heap.size, 3, none⟩) k0).trans L.h3, fun o => (World.frozen?_of_block (a := ⟨w.heap.size, o, none⟩) k0).trans (L.hf o), L.but.trans hb, Nat.le_trans hs hb.size, hl⟩
theorem LocH.set0 {W w : World} {b : Nat} {s : ByteArray} {r : Rd} {v0 v1 v2 v3 : Value} (L : LocH W w b s r v0 v1 v2 v3) (u : Value) : LocH (W.setCell ⟨w.heap.size + 1, 0, none⟩ u) w b s r u v1 v2 v3 := by
 obtain ⟨rd, g0, g1, g2, g3, gf, h0, h1, h2, h3, hf, but, size, lt⟩ := L
 refine ⟨readerAt_set rd _ _ (by simp only; omega), ?_, ?_, ?_, ?_, fun o => ?_, ?_, ?_, ?_, ?_, fun o => ?_, but.setNew _ _ (by simp), by simpa using size, lt⟩
 all_goals simp [go_sem, g0, g1, g2, g3, gf, h0, h1, h2, h3, hf]
theorem LocH.set1 {W w : World} {b : Nat} {s : ByteArray} {r : Rd} {v0 v1 v2 v3 : Value} (L : LocH W w b s r v0 v1 v2 v3) (u : Value) : LocH (W.setCell ⟨w.heap.size + 1, 1, none⟩ u) w b s r v0 u v2 v3 := by
 obtain ⟨rd, g0, g1, g2, g3, gf, h0, h1, h2, h3, hf, but, size, lt⟩ := L
 refine ⟨readerAt_set rd _ _ (by simp only; omega), ?_, ?_, ?_, ?_, fun o => ?_, ?_, ?_, ?_, ?_, fun o => ?_, but.setNew _ _ (by simp), by simpa using size, lt⟩
 all_goals simp [go_sem, g0, g1, g2, g3, gf, h0, h1, h2, h3, hf]
theorem LocH.set2 {W w : World} {b : Nat} {s : ByteArray} {r : Rd} {v0 v1 v2 v3 : Value} (L : LocH W w b s r v0 v1 v2 v3) (u : Value) : LocH (W.setCell ⟨w.heap.size + 1, 2, none⟩ u) w b s r v0 v1 u v3 := by
 obtain ⟨rd, g0, g1, g2, g3, gf, h0, h1, h2, h3, hf, but, size, lt⟩ := L
 refine ⟨readerAt_set rd _ _ (by simp only; omega), ?_, ?_, ?_, ?_, fun o => ?_, ?_, ?_, ?_, ?_, fun o => ?_, but.setNew _ _ (by simp), by simpa using size, lt⟩
 all_goals simp [go_sem, g0, g1, g2, g3, gf, h0, h1, h2, h3, hf]
theorem LocH.set3 {W w : World} {b : Nat} {s : ByteArray} {r : Rd} {v0 v1 v2 v3 : Value} (L : LocH W w b s r v0 v1 v2 v3) (u : Value) : LocH (W.setCell ⟨w.heap.size + 1, 3, none⟩ u) w b s r v0 v1 v2 u := by
 obtain ⟨rd, g0, g1, g2, g3, gf, h0, h1, h2, h3, hf, but, size, lt⟩ := L
 refine ⟨readerAt_set rd _ _ (by simp only; omega), ?_, ?_, ?_, ?_, fun o => ?_, ?_, ?_, ?_, ?_, fun o => ?_, but.setNew _ _ (by simp), by simpa using size, lt⟩
 all_goals simp [go_sem, g0, g1, g2, g3, gf, h0, h1, h2, h3, hf]
theorem locH_end {W w : World} {b : Nat} {s : ByteArray} {r : Rd} {v0 v1 v2 v3 : Value} (L : LocH W w b s r v0 v1 v2 v3) (u0 u1 u2 u3 : Value) : ReaderAt (((((W).setCell ⟨w.heap.size, 0, none⟩ u0).setCell ⟨w.heap.size, 1, none⟩ u1).setCell ⟨w.heap.size, 2, none⟩ u2).setCell ⟨w.heap.size, 3, none⟩ u3) b s r nilS ∧ But b w (((((W).setCell ⟨w.heap.size, 0, none⟩ u0).setCell ⟨w.heap.size, 1, none⟩ u1).setCell ⟨w.heap.size, 2, none⟩ u2).setCell ⟨w.heap.size, 3, none⟩ u3) := by
 have hl := L.lt
 refine ⟨?_, ?_⟩
 ·repeat (refine readerAt_set ?_ _ _ (by simp only; omega))
  exact L.rd
 ·repeat (refine But.setNew ?_ _ _ (by simp))
  exact L.but
set_option maxHeartbeats 1000000 in
theorem head_field (s : ByteArray) (hs : s.size ≤ 400) (b : Nat) (r : Rd) (w : World) (h : ReaderAt w b s r nilS) (hp : r.pos ≤ s.data.toList.length) (t0 : r.seesOne s.data.toList 63 63 = true) :
  Calls Tryz.prog 69 #[.pointer (some ⟨b, 0, none⟩)] w fun e w' => e = .returned (.agg (hdV (headU s.data.toList r).2).toArray) ∧ ReaderAt w' b s (headU s.data.toList r).1 nilS ∧ But b w w' := by
 have hsl : s.data.toList.length = s.size := by simp
 have a1 := headO_stp hp
 have a2 := takeOne_stp 97 122 a1.le
 have a3 := takeOne_stp 58 58 a2.le
 have a4 := label_stp a3.le
 have p0 : r.pos ≤ s.size := by omega
 unfold headU
 simp only [hdV, t0]
 have hO : headO s.data.toList r = (r.takeOne s.data.toList 63 63).1 := by unfold headO; rw [if_pos t0]
 rw [hO] at a1 a2 a3 a4 ⊢
 clear hO
 generalize hh_r1 : (r.takeOne s.data.toList 63 63).1 = r1 at *
 have H_r1 : Hid ((r.takeOne s.data.toList 63 63).1 = r1) := hh_r1
 clear hh_r1
 generalize hh_q2 : r1.takeOne s.data.toList 97 122 = q2 at *
 have H_q2 : Hid (r1.takeOne s.data.toList 97 122 = q2) := hh_q2
 clear hh_q2
 generalize hh_r3 : (q2.1.takeOne s.data.toList 58 58).1 = r3 at *
 have H_r3 : Hid ((q2.1.takeOne s.data.toList 58 58).1 = r3) := hh_r3
 clear hh_r3
 generalize hh_q4 : r3.label s.data.toList = q4 at *
 have H_q4 : Hid (r3.label s.data.toList = q4) := hh_q4
 clear hh_q4
 have p1 : r1.pos ≤ s.size := by have := a1.le; omega
 have p2 : q2.1.pos ≤ s.size := by have := a2.le; omega
 have p3 : r3.pos ≤ s.size := by have := a3.le; omega
 have p4 : q4.1.pos ≤ s.size := by have := a4.le; omega
 have HH : Hid (ReaderAt w b s r nilS) := h
 have hb : b < w.heap.size := World.block_lt_of_cell? w _ h.c0
 have hbn : ¬ b = w.heap.size := by omega
 have hbn1 : ¬ b = w.heap.size + 1 := by omega
 clear a1 a2 a3 a4 h
 go_enter Tryz.func69, Tryz.ntmps69
 go_wp2_with fail
 refine (sees_but b s r nilS 63 _ (locH_start HH.out _ _ _ _ _ _).rd hs p0).mono ?_
 rw [t0]
 rintro e w1 ⟨rfl, hr1, hb1⟩
 have L1 := (locH_start HH.out _ _ _ _ _ _).call hr1 hb1
 have HL1 : Hid _ := L1
 clear hr1 hb1
 obtain ⟨rd, g0, g1, g2, g3, gf, h0, h1, h2, h3, hf, but, size, lt⟩ := L1
 clear rd but
 go_wp2_with fail
 refine (take_any b s r nilS 63 _ (HL1.out.set0 _).rd hs p0).mono ?_
 rw [H_r1.out]
 rintro e w2 ⟨rfl, hr2, hb2⟩
 have L2 := (HL1.out.set0 _).call hr2 hb2
 have HL2 : Hid _ := L2
 clear HL1 g0 g1 g2 g3 gf h0 h1 h2 h3 hf size lt
 clear hr2 hb2
 obtain ⟨rd, g0, g1, g2, g3, gf, h0, h1, h2, h3, hf, but, size, lt⟩ := L2
 clear rd but
 obtain ⟨c0, c1, c2, c3, c4, fz⟩ := id HL2.out.rd
 go_wp2_with fail
 refine (takeName_any b s r1 nilS _ (HL2.out.set1 _).rd hs p1).mono ?_
 rw [H_q2.out]
 rintro e w3 ⟨rfl, hr3, hb3⟩
 have L3 := (HL2.out.set1 _).call hr3 hb3
 have HL3 : Hid _ := L3
 clear HL2 g0 g1 g2 g3 gf h0 h1 h2 h3 hf size lt
 clear hr3 hb3
 obtain ⟨rd, g0, g1, g2, g3, gf, h0, h1, h2, h3, hf, but, size, lt⟩ := L3
 clear rd but
 clear c0 c1 c2 c3 c4 fz
 go_wp2_with fail
 refine (take_any b s q2.1 nilS 58 _ (HL3.out.set2 _).rd hs p2).mono ?_
 rw [H_r3.out]
 rintro e w4 ⟨rfl, hr4, hb4⟩
 have L4 := (HL3.out.set2 _).call hr4 hb4
 have HL4 : Hid _ := L4
 clear HL3 g0 g1 g2 g3 gf h0 h1 h2 h3 hf size lt
 clear hr4 hb4
 obtain ⟨rd, g0, g1, g2, g3, gf, h0, h1, h2, h3, hf, but, size, lt⟩ := L4
 clear rd but
 go_wp2_with fail
 refine (label_rd b s r3 nilS _ HL4.out.rd hs p3).mono ?_
 rw [H_q4.out]
 rintro e w5 ⟨rfl, hr5, hb5⟩
 have L5 := HL4.out.call hr5 hb5
 have HL5 : Hid _ := L5
 clear HL4 g0 g1 g2 g3 gf h0 h1 h2 h3 hf size lt
 clear hr5 hb5
 obtain ⟨rd, g0, g1, g2, g3, gf, h0, h1, h2, h3, hf, but, size, lt⟩ := L5
 clear rd but
 go_wp2_with fail
 refine (take_any b s q4.1 nilS 59 _ (HL5.out.set3 _).rd hs p4).mono ?_
 rintro e w6 ⟨rfl, hr6, hb6⟩
 have L6 := (HL5.out.set3 _).call hr6 hb6
 have HL6 : Hid _ := L6
 clear HL5 g0 g1 g2 g3 gf h0 h1 h2 h3 hf size lt
 clear hr6 hb6
 obtain ⟨rd, g0, g1, g2, g3, gf, h0, h1, h2, h3, hf, but, size, lt⟩ := L6
 clear rd but
 go_wp2_with fail
 refine bodyPost_ret (v := .agg #[.bool true, .int .i64 r1.pos, .int .i64 q2.2, .int .i64 q4.2]) (by simp [results, Tryz.results69, go_sem, g0, g1, g2, g3, h0, h1, h2, h3, gf, hf]) rfl ?_
 obtain ⟨e1, e2⟩ := locH_end HL6.out (.bool true) (.int .i64 r1.pos) (.int .i64 q2.2) (.int .i64 q4.2)
 exact ⟨rfl, e1, e2⟩
set_option maxHeartbeats 1000000 in
theorem head_name (s : ByteArray) (hs : s.size ≤ 400) (b : Nat) (r : Rd) (w : World) (h : ReaderAt w b s r nilS) (hp : r.pos ≤ s.data.toList.length) (t0 : r.seesOne s.data.toList 63 63 = false) :
  Calls Tryz.prog 69 #[.pointer (some ⟨b, 0, none⟩)] w fun e w' => e = .returned (.agg (hdV (headU s.data.toList r).2).toArray) ∧ ReaderAt w' b s (headU s.data.toList r).1 nilS ∧ But b w w' := by
 have hsl : s.data.toList.length = s.size := by simp
 have a1 := headO_stp hp
 have a2 := takeOne_stp 97 122 a1.le
 have a3 := takeOne_stp 58 58 a2.le
 have a4 := label_stp a3.le
 have p0 : r.pos ≤ s.size := by omega
 unfold headU
 simp only [hdV, t0]
 have hO : headO s.data.toList r = (r.takeOne s.data.toList 33 33).1 := by unfold headO; rw [if_neg (by rw [t0]; decide)]
 rw [hO] at a1 a2 a3 a4 ⊢
 clear hO
 generalize hh_r1 : (r.takeOne s.data.toList 33 33).1 = r1 at *
 have H_r1 : Hid ((r.takeOne s.data.toList 33 33).1 = r1) := hh_r1
 clear hh_r1
 generalize hh_q2 : r1.takeOne s.data.toList 97 122 = q2 at *
 have H_q2 : Hid (r1.takeOne s.data.toList 97 122 = q2) := hh_q2
 clear hh_q2
 generalize hh_r3 : (q2.1.takeOne s.data.toList 58 58).1 = r3 at *
 have H_r3 : Hid ((q2.1.takeOne s.data.toList 58 58).1 = r3) := hh_r3
 clear hh_r3
 generalize hh_q4 : r3.label s.data.toList = q4 at *
 have H_q4 : Hid (r3.label s.data.toList = q4) := hh_q4
 clear hh_q4
 have p1 : r1.pos ≤ s.size := by have := a1.le; omega
 have p2 : q2.1.pos ≤ s.size := by have := a2.le; omega
 have p3 : r3.pos ≤ s.size := by have := a3.le; omega
 have p4 : q4.1.pos ≤ s.size := by have := a4.le; omega
 have HH : Hid (ReaderAt w b s r nilS) := h
 have hb : b < w.heap.size := World.block_lt_of_cell? w _ h.c0
 have hbn : ¬ b = w.heap.size := by omega
 have hbn1 : ¬ b = w.heap.size + 1 := by omega
 clear a1 a2 a3 a4 h
 go_enter Tryz.func69, Tryz.ntmps69
 go_wp2_with fail
 refine (sees_but b s r nilS 63 _ (locH_start HH.out _ _ _ _ _ _).rd hs p0).mono ?_
 rw [t0]
 rintro e w1 ⟨rfl, hr1, hb1⟩
 have L1 := (locH_start HH.out _ _ _ _ _ _).call hr1 hb1
 have HL1 : Hid _ := L1
 clear hr1 hb1
 obtain ⟨rd, g0, g1, g2, g3, gf, h0, h1, h2, h3, hf, but, size, lt⟩ := L1
 clear rd but
 go_wp2_with fail
 refine (take_any b s r nilS 33 _ (HL1.out.set0 _).rd hs p0).mono ?_
 rw [H_r1.out]
 rintro e w2 ⟨rfl, hr2, hb2⟩
 have L2 := (HL1.out.set0 _).call hr2 hb2
 have HL2 : Hid _ := L2
 clear HL1 g0 g1 g2 g3 gf h0 h1 h2 h3 hf size lt
 clear hr2 hb2
 obtain ⟨rd, g0, g1, g2, g3, gf, h0, h1, h2, h3, hf, but, size, lt⟩ := L2
 clear rd but
 obtain ⟨c0, c1, c2, c3, c4, fz⟩ := id HL2.out.rd
 go_wp2_with fail
 refine (takeName_any b s r1 nilS _ (HL2.out.set1 _).rd hs p1).mono ?_
 rw [H_q2.out]
 rintro e w3 ⟨rfl, hr3, hb3⟩
 have L3 := (HL2.out.set1 _).call hr3 hb3
 have HL3 : Hid _ := L3
 clear HL2 g0 g1 g2 g3 gf h0 h1 h2 h3 hf size lt
 clear hr3 hb3
 obtain ⟨rd, g0, g1, g2, g3, gf, h0, h1, h2, h3, hf, but, size, lt⟩ := L3
 clear rd but
 clear c0 c1 c2 c3 c4 fz
 go_wp2_with fail
 refine (take_any b s q2.1 nilS 58 _ (HL3.out.set2 _).rd hs p2).mono ?_
 rw [H_r3.out]
 rintro e w4 ⟨rfl, hr4, hb4⟩
 have L4 := (HL3.out.set2 _).call hr4 hb4
 have HL4 : Hid _ := L4
 clear HL3 g0 g1 g2 g3 gf h0 h1 h2 h3 hf size lt
 clear hr4 hb4
 obtain ⟨rd, g0, g1, g2, g3, gf, h0, h1, h2, h3, hf, but, size, lt⟩ := L4
 clear rd but
 go_wp2_with fail
 refine (label_rd b s r3 nilS _ HL4.out.rd hs p3).mono ?_
 rw [H_q4.out]
 rintro e w5 ⟨rfl, hr5, hb5⟩
 have L5 := HL4.out.call hr5 hb5
 have HL5 : Hid _ := L5
 clear HL4 g0 g1 g2 g3 gf h0 h1 h2 h3 hf size lt
 clear hr5 hb5
 obtain ⟨rd, g0, g1, g2, g3, gf, h0, h1, h2, h3, hf, but, size, lt⟩ := L5
 clear rd but
 go_wp2_with fail
 refine (take_any b s q4.1 nilS 59 _ (HL5.out.set3 _).rd hs p4).mono ?_
 rintro e w6 ⟨rfl, hr6, hb6⟩
 have L6 := (HL5.out.set3 _).call hr6 hb6
 have HL6 : Hid _ := L6
 clear HL5 g0 g1 g2 g3 gf h0 h1 h2 h3 hf size lt
 clear hr6 hb6
 obtain ⟨rd, g0, g1, g2, g3, gf, h0, h1, h2, h3, hf, but, size, lt⟩ := L6
 clear rd but
 go_wp2_with fail
 refine bodyPost_ret (v := .agg #[.bool false, .int .i64 r1.pos, .int .i64 q2.2, .int .i64 q4.2]) (by simp [results, Tryz.results69, go_sem, g0, g1, g2, g3, h0, h1, h2, h3, gf, hf]) rfl ?_
 obtain ⟨e1, e2⟩ := locH_end HL6.out (.bool false) (.int .i64 r1.pos) (.int .i64 q2.2) (.int .i64 q4.2)
 exact ⟨rfl, e1, e2⟩
theorem head_rd (s : ByteArray) (hs : s.size ≤ 400) (b : Nat) (r : Rd) (w : World) (h : ReaderAt w b s r nilS) (hp : r.pos ≤ s.data.toList.length) :
  Calls Tryz.prog 69 #[.pointer (some ⟨b, 0, none⟩)] w fun e w' => e = .returned (.agg (hdV (headU s.data.toList r).2).toArray) ∧ ReaderAt w' b s (headU s.data.toList r).1 nilS ∧ But b w w' := by
 cases t0 : r.seesOne s.data.toList 63 63
 ·exact head_name s hs b r w h hp t0
 ·exact head_field s hs b r w h hp t0
end Go.Proofs.YtdgmoiflahoihabGreatDoor
namespace Go.Proofs.YtdgmoiflahoihabGreatDoor
open Go.RowKit
set_option linter.unusedSimpArgs false
set_option linter.unusedVariables false
def HeadsV (w : World) (P : Nat → Prop) (v : Value) (l : List Hd) : Prop := w.ownsRow 0 101 4 v l.length (hdCells l) ∧ ∀ k, v.ownBlock = some k → P k
theorem headsV_frame {w w' : World} {P Q : Nat → Prop} {v : Value} {l : List Hd} (h : HeadsV w P v l) (hk : ∀ k, P k → k < w.heap.size → Q k ∧ w'.heap[k]? = w.heap[k]?) : HeadsV w' Q v l :=
 ⟨own_same h.1 (fun k e hl => (hk k (h.2 k e) hl).2), fun k e => (hk k (h.2 k e) (h.1.lt k e).2).1⟩
theorem headsV_but {w w' : World} {b B : Nat} {v : Value} {l : List Hd} (h : HeadsV w (fun k => B ≤ k) v l) (hb : But b w w') (hB : b < B) : HeadsV w' (fun k => B ≤ k) v l :=
 headsV_frame h (fun k hk hl => ⟨hk, hb.block k hl (fun e => by cases e; omega)⟩)
theorem headsV_len {w : World} {P : Nat → Prop} {v : Value} {l : List Hd} (h : HeadsV w P v l) : lenOfS v = l.length := by
 rcases Joins.ownsRow_forms h.1 with ⟨rfl, e⟩ | ⟨g, cap, rfl⟩
 ·rw [e]; rfl
 ·rfl
theorem headsL_yes {t : List UInt8} {r : Rd} (k : Nat) (h : (r.seesOne t 63 63 || r.seesOne t 33 33) = true) : headsL t (k + 1) r = ((headsL t k (headU t r).1).1, (headU t r).2 :: (headsL t k (headU t r).1).2) := by
 conv => lhs; unfold headsL
 rw [if_pos h]
theorem headsL_no {t : List UInt8} {r : Rd} (k : Nat) (h : (r.seesOne t 63 63 || r.seesOne t 33 33) = false) : headsL t (k + 1) r = (r, []) := by
 conv => lhs; unfold headsL
 rw [if_neg (by rw [h]; decide)]
theorem four_at (w : World) (g : Nat) (hg : g = w.heap.size) (a0 a1 a2 a3 : Value) (t : TypeId) : ∀ j u, [a0, a1, a2, a3][j]? = some u → (w.alloc (.cells #[a0, a1, a2, a3] t)).cell? ((⟨g, 0, none⟩ : Addr).add j) = some u := by
 subst hg
 intro j u h
 match j, h with
 | 0, h => simp at h; subst h; simp [go_sem, Addr.add]
 | 1, h => simp at h; subst h; simp [go_sem, Addr.add]
 | 2, h => simp at h; subst h; simp [go_sem, Addr.add]
 | 3, h => simp at h; subst h; simp [go_sem, Addr.add]
 | j + 4, h => simp at h
theorem heads_append {w w3 W w4 : World} {b : Nat} {s : ByteArray} {r : Rd} {v v' : Value} {l : List Hd} {q : Hd} {o1 o2 : Obj} (hW : W = (w3.alloc o1).alloc o2)
  (hb : b < w.heap.size) (hB : But b w w3) (hr : ReaderAt w3 b s r nilS) (hm : HeadsV w3 (fun k => w.heap.size ≤ k) v l)
  (ho : w4.ownsRow 0 101 4 v' (l.length + 1) (hdCells l ++ hdV q)) (hg : W.grownBy w4 v.ownBlock) (hf0 : v'.ownBlock = v.ownBlock ∨ ∃ g, v'.ownBlock = some g ∧ w3.heap.size + 1 + 1 ≤ g) :
  HeadsV w4 (fun k => w.heap.size ≤ k) v' (l ++ [q]) ∧ ReaderAt w4 b s r nilS ∧ But b w w4 := by
 subst hW
 have hsz := hB.size
 refine ⟨⟨?_, ?_⟩, ?_, ?_⟩
 ·rw [List.length_append, hdCells_app]
  simpa [hdCells] using ho
 ·intro k e
  rcases hf0 with e1 | ⟨g, e1, hge⟩
  ·rw [e1] at e; exact hm.2 k e
  ·rw [e1] at e; cases e; omega
 ·refine readerAt_grown (readerAt_alloc (readerAt_alloc hr _) _) hg ?_
  intro e
  have := hm.2 b e.symm
  omega
 ·exact But.grown ((hB.alloc _).alloc _) hg hm.2
set_option maxRecDepth 100000 in
set_option maxHeartbeats 1000000 in
theorem heads_any (s : ByteArray) (hs : s.size ≤ 400) (b : Nat) (r : Rd) (w : World) (h : ReaderAt w b s r nilS) (hp : r.pos ≤ s.data.toList.length) :
  Calls Tryz.prog 49 #[.pointer (some ⟨b, 0, none⟩)] w fun e w' => ∃ v, e = .returned v ∧ HeadsV w' (fun k => w.heap.size ≤ k) v (headsL s.data.toList (s.data.toList.length + 1) r).2 ∧ ReaderAt w' b s (headsL s.data.toList (s.data.toList.length + 1) r).1 nilS ∧ But b w w' := by
 have hsl : s.data.toList.length = s.size := by simp
 have hb : b < w.heap.size := World.block_lt_of_cell? w _ h.c0
 obtain ⟨iR, hiR, hzR, hsR, hbR⟩ := parts_of_info infoHead
 generalize hR : headsL s.data.toList (s.data.toList.length + 1) r = R
 have HR : Hid (headsL s.data.toList (s.data.toList.length + 1) r = R) := hR
 have HH : Hid (ReaderAt w b s r nilS) := h
 clear hR h
 go_enter Tryz.func49, Tryz.ntmps49
 go_wp2_with fail
 go_loopw [3] (fun x w' => ∃ (j : Nat) (r' : Rd) (l : List Hd) (v : Value), v = x ∧ Hid (ReaderAt w' b s r' nilS) ∧ Hid (But b w w') ∧ Hid (HeadsV w' (fun k => w.heap.size ≤ k) v l) ∧ r'.pos ≤ s.data.toList.length ∧ l.length + j = s.data.toList.length + 1 ∧ s.data.toList.length - r'.pos < j ∧ Hid ((headsL s.data.toList j r').1 = R.1 ∧ l ++ (headsL s.data.toList j r').2 = R.2)) (fun x _ => 1000 - lenOfS x)
 case atStart => exact ⟨s.data.toList.length + 1, r, [], nilS, rfl, HH, But.refl _ _, ⟨World.ownsRow_nil .., fun k e => (by cases e)⟩, hp, by simp, by omega, by show _ ∧ _; rw [HR.out]; exact ⟨rfl, rfl⟩⟩
 case round =>
  obtain ⟨j, r', l, v, rfl, HR', HB', HM, hp', hlj, hj, HQ⟩ := hrel
  have hsz : w.heap.size ≤ wr.heap.size := HB'.out.size
  have hpp : r'.pos ≤ s.size := by omega
  obtain ⟨j', rfl⟩ : ∃ j', j = j' + 1 := ⟨j - 1, by omega⟩
  cases hor : (r'.seesOne s.data.toList 63 63 || r'.seesOne s.data.toList 33 33)
  ·have hq := HQ.out
   rw [headsL_no j' hor] at hq
   simp only [List.append_nil] at hq
   have HQ2 : Hid _ := hq
   clear hq
   obtain ⟨t1, t2⟩ := Bool.or_eq_false_iff.mp hor
   clear hor
   go_wp2_with fail
   refine (sees_but b s r' nilS 63 _ HR'.out hs hpp).mono ?_
   rw [t1]
   rintro e w2 ⟨rfl, hr2, hb2⟩
   go_wp2_with fail
   refine (sees_but b s r' nilS 33 _ hr2 hs hpp).mono ?_
   rw [t2]
   rintro e w3 ⟨rfl, hr3, hb3⟩
   go_wp2_with fail
   go_ret
   refine ⟨v, rfl, ?_, ?_, (HB'.out.trans hb2).trans hb3⟩
   ·rw [← HQ2.out.2]
    exact headsV_but (headsV_but HM.out hb2 hb) hb3 hb
   ·rw [← HQ2.out.1]
    exact hr3
  ·have hgt := headU_gt hor
   have hst := headU_stp hp'
   have hq := HQ.out
   rw [headsL_yes j' hor] at hq
   simp only at hq
   have HQ2 : Hid _ := hq
   clear hq
   generalize hz : headU s.data.toList r' = z at *
   have HZ : Hid (headU s.data.toList r' = z) := hz
   have HST : Hid _ := hst
   clear hz hst
   obtain ⟨z1, hd⟩ := z
   simp only at hgt
   cases t1 : r'.seesOne s.data.toList 63 63
   ·have t2 : r'.seesOne s.data.toList 33 33 = true := by rw [t1] at hor; simpa using hor
    clear hor
    go_wp2_with fail
    refine (sees_but b s r' nilS 63 _ HR'.out hs hpp).mono ?_
    rw [t1]
    rintro e w2 ⟨rfl, hr2, hb2⟩
    go_wp2_with fail
    refine (sees_but b s r' nilS 33 _ hr2 hs hpp).mono ?_
    rw [t2]
    rintro e w3 ⟨rfl, hr3, hb3⟩
    have HM3 : Hid (HeadsV w3 (fun k => w.heap.size ≤ k) v l) := headsV_but (headsV_but HM.out hb2 hb) hb3 hb
    have HB3 : Hid (But b w w3) := (HB'.out.trans hb2).trans hb3
    clear HM HB' hb2 hb3 hr2 t1 t2
    go_wp2_with fail
    refine (head_rd s hs b r' _ hr3 hp').mono ?_
    rw [HZ.out]
    rintro e w4 ⟨rfl, hr4, hb4⟩
    have HM4 : Hid (HeadsV w4 (fun k => w.heap.size ≤ k) v l) := headsV_but HM3.out hb4 hb
    have HB4 : Hid (But b w w4) := HB3.out.trans hb4
    have hsz4 := HB4.out.size
    clear hb4 HM3 HB3 hr3
    have HR4 : Hid _ := hr4
    clear hr4
    simp only [hdV]
    go_wp2_with (at_builtin; refine wpList_append_fresh rfl (.tmp 13) (.tmp 15) 58 rfl 0 101 iR (.agg #[.bool false, .int .i64 0, .int .i64 0, .int .i64 0]) 4 32 Tryz.underlying58 hiR hzR hsR hbR rfl (by decide) v l.length (hdCells l) (by rfl) (by exact (HM4.out.1.alloc _).alloc _) ⟨w4.heap.size + 1, 0, none⟩ 1 1 [.bool hd.field, .int .i64 hd.place, .int .i64 hd.name, .int .i64 hd.label] (by rfl) rfl (by exact four_at _ _ (by simp) _ _ _ _ 101) (by intro q hq; simp at hq; rcases hq with rfl | rfl | rfl | rfl <;> rfl) (by unfold maxLen; omega) (by omega) (Nat.zero_le _) (by decide) ?nxt)
    case nxt =>
     intro v' w5 hown hgrow hfr
     obtain ⟨mk, hr5, hb5⟩ := heads_append (q := hd) rfl hb HB4.out HR4.out HM4.out hown hgrow hfr
     have hlv := headsV_len HM4.out
     have HM5 : Hid _ := mk
     obtain ⟨g, cap, hv'⟩ := Joins.ownsRow_form hown (by omega)
     subst hv'
     have HR5 : Hid _ := hr5
     have HB5 : Hid _ := hb5
     clear hgrow hfr hown hr5 hb5 mk
     go_wp2_with fail
     go_roundw
     case rel =>
      refine ⟨j', z1, l ++ [hd], _, rfl, HR5, HB5, HM5, HST.out.le, by simp; omega, by have := HST.out.le; omega, ?_⟩
      have := HQ2.out
      exact ⟨this.1, by rw [List.append_assoc]; exact this.2⟩
     case measure =>
      rw [hlv]
      simp only [lenOfS]
      omega
   ·clear hor
    go_wp2_with fail
    refine (sees_but b s r' nilS 63 _ HR'.out hs hpp).mono ?_
    rw [t1]
    rintro e w3 ⟨rfl, hr3, hb3⟩
    have HM3 : Hid (HeadsV w3 (fun k => w.heap.size ≤ k) v l) := headsV_but HM.out hb3 hb
    have HB3 : Hid (But b w w3) := HB'.out.trans hb3
    clear HM HB' hb3 t1
    go_wp2_with fail
    refine (head_rd s hs b r' _ hr3 hp').mono ?_
    rw [HZ.out]
    rintro e w4 ⟨rfl, hr4, hb4⟩
    have HM4 : Hid (HeadsV w4 (fun k => w.heap.size ≤ k) v l) := headsV_but HM3.out hb4 hb
    have HB4 : Hid (But b w w4) := HB3.out.trans hb4
    have hsz4 := HB4.out.size
    clear hb4 HM3 HB3 hr3
    have HR4 : Hid _ := hr4
    clear hr4
    simp only [hdV]
    go_wp2_with (at_builtin; refine wpList_append_fresh rfl (.tmp 13) (.tmp 15) 58 rfl 0 101 iR (.agg #[.bool false, .int .i64 0, .int .i64 0, .int .i64 0]) 4 32 Tryz.underlying58 hiR hzR hsR hbR rfl (by decide) v l.length (hdCells l) (by rfl) (by exact (HM4.out.1.alloc _).alloc _) ⟨w4.heap.size + 1, 0, none⟩ 1 1 [.bool hd.field, .int .i64 hd.place, .int .i64 hd.name, .int .i64 hd.label] (by rfl) rfl (by exact four_at _ _ (by simp) _ _ _ _ 101) (by intro q hq; simp at hq; rcases hq with rfl | rfl | rfl | rfl <;> rfl) (by unfold maxLen; omega) (by omega) (Nat.zero_le _) (by decide) ?nxt)
    case nxt =>
     intro v' w5 hown hgrow hfr
     obtain ⟨mk, hr5, hb5⟩ := heads_append (q := hd) rfl hb HB4.out HR4.out HM4.out hown hgrow hfr
     have hlv := headsV_len HM4.out
     have HM5 : Hid _ := mk
     obtain ⟨g, cap, hv'⟩ := Joins.ownsRow_form hown (by omega)
     subst hv'
     have HR5 : Hid _ := hr5
     have HB5 : Hid _ := hb5
     clear hgrow hfr hown hr5 hb5 mk
     go_wp2_with fail
     go_roundw
     case rel =>
      refine ⟨j', z1, l ++ [hd], _, rfl, HR5, HB5, HM5, HST.out.le, by simp; omega, by have := HST.out.le; omega, ?_⟩
      have := HQ2.out
      exact ⟨this.1, by rw [List.append_assoc]; exact this.2⟩
     case measure =>
      rw [hlv]
      simp only [lenOfS]
      omega
end Go.Proofs.YtdgmoiflahoihabGreatDoor
