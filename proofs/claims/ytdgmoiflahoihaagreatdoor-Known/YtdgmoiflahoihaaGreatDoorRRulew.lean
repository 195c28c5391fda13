import Derived.Test.YtdgmoiflahoihaaGreatDoorRRuw

namespace Go.Proofs.YtdgmoiflahoihaaGreatDoor
open Go.RowKit
set_option linter.unusedSimpArgs false
set_option linter.unusedVariables false
structure Res (W w : World) (b : Nat) (s : ByteArray) (r : Rd) : Prop where
 rd : ReaderAt W b s r nilS
 h0 : W.cell? ⟨w.heap.size, 0, none⟩ = some (.int .i64 0)
 h1 : W.cell? ⟨w.heap.size, 1, none⟩ = some (.int .i64 0)
 h2 : W.cell? ⟨w.heap.size, 2, none⟩ = some (.int .i64 0)
 h3 : W.cell? ⟨w.heap.size, 3, none⟩ = some (.int .i64 0)
 h4 : W.cell? ⟨w.heap.size, 4, none⟩ = some (.int .i64 0)
 h5 : W.cell? ⟨w.heap.size, 5, none⟩ = some (.slice none 0 0)
 h6 : W.cell? ⟨w.heap.size, 6, none⟩ = some (.slice none 0 0)
 h7 : W.cell? ⟨w.heap.size, 7, none⟩ = some (.slice none 0 0)
 hf : ∀ o, W.frozen? ⟨w.heap.size, o, none⟩ = false
 but : But b w W
 size : w.heap.size + 1 ≤ W.heap.size
 lt : b < w.heap.size
theorem res_start {w : World} {b : Nat} {s : ByteArray} {r : Rd} (h : ReaderAt w b s r nilS) (t : TypeId) : Res (w.alloc (.cells #[.int .i64 0, .int .i64 0, .int .i64 0, .int .i64 0, .int .i64 0, .slice none 0 0, .slice none 0 0, .slice none 0 0] t)) w b s r := by
 have hb : b < w.heap.size := World.block_lt_of_cell? w _ h.c0
 refine ⟨readerAt_alloc h _, ?_, ?_, ?_, ?_, ?_, ?_, ?_, ?_, fun o => ?_, (But.refl b w).alloc _, by simp, hb⟩
 all_goals simp [go_sem]
theorem Res.call {W W' w : World} {b : Nat} {s : ByteArray} {r r' : Rd} (L : Res W w b s r) (hr : ReaderAt W' b s r' nilS) (hb : But b W W') : Res W' w b s r' := by
 have hs := L.size
 have hl := L.lt
 have k0 : W'.heap[w.heap.size]? = W.heap[w.heap.size]? := hb.block _ (by omega) (fun e => by cases e; omega)
 exact ⟨hr, (World.cell?_of_block (a := ⟨w.heap.size, 0, none⟩) k0).trans L.h0, (World.cell?_of_block (a := ⟨w.heap.size, 1, none⟩) k0).trans L.h1, (World.cell?_of_block (a := ⟨w.heap.size, 2, none⟩) k0).trans L.h2, (World.cell?_of_block (a := ⟨w.heap.size, 3, none⟩) k0).trans L.h3, (World.cell?_of_block (a := ⟨w.heap.size, 4, none⟩) k0).trans L.h4, (World.cell?_of_block (a := ⟨w.heap.size, 5, none⟩) k0).trans L.h5, (World.cell?_of_block (a := ⟨w.heap.size, 6, none⟩) k0).trans L.h6, (World.cell?_of_block (a := ⟨w.heap.size, 7, none⟩) k0).trans L.h7, fun o => (World.frozen?_of_block (a := ⟨w.heap.size, o, none⟩) k0).trans (L.hf o), L.but.trans hb, Nat.le_trans hs hb.size, hl⟩
theorem res_end {W w : World} {b : Nat} {s : ByteArray} {r : Rd} (L : Res W w b s r) (u0 u1 u2 u3 u4 u5 u6 u7 : Value) :
  ReaderAt (((((((((W).setCell ⟨w.heap.size, 0, none⟩ u0).setCell ⟨w.heap.size, 1, none⟩ u1).setCell ⟨w.heap.size, 2, none⟩ u2).setCell ⟨w.heap.size, 3, none⟩ u3).setCell ⟨w.heap.size, 4, none⟩ u4).setCell ⟨w.heap.size, 5, none⟩ u5).setCell ⟨w.heap.size, 6, none⟩ u6).setCell ⟨w.heap.size, 7, none⟩ u7) b s r nilS ∧ But b w (((((((((W).setCell ⟨w.heap.size, 0, none⟩ u0).setCell ⟨w.heap.size, 1, none⟩ u1).setCell ⟨w.heap.size, 2, none⟩ u2).setCell ⟨w.heap.size, 3, none⟩ u3).setCell ⟨w.heap.size, 4, none⟩ u4).setCell ⟨w.heap.size, 5, none⟩ u5).setCell ⟨w.heap.size, 6, none⟩ u6).setCell ⟨w.heap.size, 7, none⟩ u7) ∧
  (∀ n cs q, RuleV n W (fun k => w.heap.size + 1 ≤ k) cs q → RuleV n (((((((((W).setCell ⟨w.heap.size, 0, none⟩ u0).setCell ⟨w.heap.size, 1, none⟩ u1).setCell ⟨w.heap.size, 2, none⟩ u2).setCell ⟨w.heap.size, 3, none⟩ u3).setCell ⟨w.heap.size, 4, none⟩ u4).setCell ⟨w.heap.size, 5, none⟩ u5).setCell ⟨w.heap.size, 6, none⟩ u6).setCell ⟨w.heap.size, 7, none⟩ u7) (fun k => w.heap.size ≤ k) cs q) := by
 have hl := L.lt
 have hk : ∀ k, w.heap.size + 1 ≤ k → k < W.heap.size → w.heap.size ≤ k ∧ (((((((((W).setCell ⟨w.heap.size, 0, none⟩ u0).setCell ⟨w.heap.size, 1, none⟩ u1).setCell ⟨w.heap.size, 2, none⟩ u2).setCell ⟨w.heap.size, 3, none⟩ u3).setCell ⟨w.heap.size, 4, none⟩ u4).setCell ⟨w.heap.size, 5, none⟩ u5).setCell ⟨w.heap.size, 6, none⟩ u6).setCell ⟨w.heap.size, 7, none⟩ u7).heap[k]? = W.heap[k]? := by
  intro k hk _
  refine ⟨by omega, ?_⟩
  repeat rw [Below.heap_setCell _ _ _ _ (by simp only; omega)]
 refine ⟨?_, ?_, fun n cs q h => ruleV_frame h hk⟩
 ·repeat (refine readerAt_set ?_ _ _ (by simp only; omega))
  exact L.rd
 ·repeat (refine But.setNew ?_ _ _ (by simp))
  exact L.but
theorem seesOne_but (b : Nat) (s : ByteArray) (r : Rd) (pv : Value) (c d : UInt8) (w : World) (h : ReaderAt w b s r pv) (hs : s.size ≤ 400) (hp : r.pos ≤ s.size) :
  Calls Tryz.prog 155 #[.pointer (some ⟨b, 0, none⟩), .int .u8 c.toNat, .int .u8 d.toNat] w fun e w' => e = .returned (.bool (r.seesOne s.data.toList c d)) ∧ ReaderAt w' b s r pv ∧ But b w w' := by
 refine (seesOne_any b s r pv c d w h hs hp).mono ?_
 rintro e w' ⟨rfl, n, rfl⟩
 exact ⟨rfl, h.drewN n, (But.refl b _).drewN n⟩
set_option maxHeartbeats 1000000 in
theorem rule_give (s : ByteArray) (hs : s.size ≤ 400) (b : Nat) (r : Rd) (w : World) (h : ReaderAt w b s r nilS) (f : FitB s.data.toList r) (n : Nat) (hB : BlkCalls s n) (hn : 8 ≤ r.depth + n) (t0 : r.seesOne s.data.toList 97 122 = true) :
  Calls Tryz.prog 120 #[.pointer (some ⟨b, 0, none⟩)] w fun e w' => ∃ cs, e = .returned (.agg cs.toArray) ∧ RuleV n w' (fun k => w.heap.size ≤ k) cs (ruleF s.data.toList n r).2 ∧ ReaderAt w' b s (ruleF s.data.toList n r).1 nilS ∧ But b w w' := by
 have hsl : s.data.toList.length = s.size := by simp
 have p0 : r.pos ≤ s.size := by have := f.le; omega
 have HB : Hid (BlkCalls s n) := hB
 have HH : Hid (ReaderAt w b s r nilS) := h
 have hb : b < w.heap.size := World.block_lt_of_cell? w _ h.c0
 have hbn : ¬ b = w.heap.size := by omega
 clear hB h
 go_enter Tryz.func120, Tryz.ntmps120
 go_wp2_with fail
 refine (seesOne_but b s r nilS 97 122 _ (res_start HH.out _).rd hs p0).mono ?_
 rw [t0]
 rintro e w1 ⟨rfl, hr1, hb1⟩
 have L1 := (res_start HH.out _).call hr1 hb1
 have HL1 : Hid _ := L1
 clear hr1 hb1
 obtain ⟨rd, h0, h1, h2, h3, h4, h5, h6, h7, hf, but, size, lt⟩ := L1
 clear rd but
 go_wp2_with fail
 refine (giveRule_any s hs b r _ HL1.out.rd f n t0).mono ?_
 rintro e w2 ⟨cs, rfl, hru, hr2, hb2⟩
 have L2 := HL1.out.call hr2 hb2
 have HL2 : Hid _ := L2
 have hru2 : RuleV n w2 (fun k => w.heap.size + 1 ≤ k) cs (ruleF s.data.toList n r).2 := ruleV_frame hru (fun k hk _ => ⟨by have j2 := HL1.out.size; (try simp at hk); omega, rfl⟩)
 clear hru
 generalize hq : (ruleF s.data.toList n r).2 = rule at *
 have HQ : Hid ((ruleF s.data.toList n r).2 = rule) := hq
 clear hq
 have HRU : Hid _ := hru2
 obtain ⟨ve, va, vb, hcs, hpe, hra, hrb⟩ := hru2
 subst hcs
 obtain ⟨ae, ne, ce, hve⟩ : ∃ aa nn cc, ve = .slice aa nn cc := by
  rcases Joins.ownsRow_forms hpe.1 with ⟨rfl, _⟩ | ⟨g, cap, rfl⟩ <;> exact ⟨_, _, _, rfl⟩
 obtain ⟨aa, na, ca, hva⟩ := rulesV_form hra
 obtain ⟨ab, nb, cb, hvb⟩ := rulesV_form hrb
 subst hve hva hvb
 clear hpe hra hrb
 clear HL1 h0 h1 h2 h3 h4 h5 h6 h7 hf size lt hr2 hb2
 obtain ⟨rd, h0, h1, h2, h3, h4, h5, h6, h7, hf, but, size, lt⟩ := L2
 clear rd but
 simp only [coreV, List.cons_append, List.nil_append]
 go_wp2_with fail
 refine bodyPost_ret (v := .agg #[.int .i64 rule.1.kind, .int .i64 rule.1.place, .int .i64 rule.1.name, .int .i64 rule.1.label, .int .i64 rule.1.count, .slice ae ne ce, .slice aa na ca, .slice ab nb cb]) (by simp [results, Tryz.results120, go_sem, h0, h1, h2, h3, h4, h5, h6, h7, hf]) rfl ?_
 obtain ⟨e1, e2, e3⟩ := res_end HL2.out (.int .i64 rule.1.kind) (.int .i64 rule.1.place) (.int .i64 rule.1.name) (.int .i64 rule.1.label) (.int .i64 rule.1.count) (.slice ae ne ce) (.slice aa na ca) (.slice ab nb cb)
 rw [HQ.out]
 exact ⟨[.int .i64 rule.1.kind, .int .i64 rule.1.place, .int .i64 rule.1.name, .int .i64 rule.1.label, .int .i64 rule.1.count, .slice ae ne ce, .slice aa na ca, .slice ab nb cb], rfl, e3 _ _ _ HRU.out, e1, e2⟩
set_option maxHeartbeats 1000000 in
theorem rule_open (s : ByteArray) (hs : s.size ≤ 400) (b : Nat) (r : Rd) (w : World) (h : ReaderAt w b s r nilS) (f : FitB s.data.toList r) (n : Nat) (hB : BlkCalls s n) (hn : 8 ≤ r.depth + n) (t0 : r.seesOne s.data.toList 97 122 = false) (t1 : r.seesOne s.data.toList 94 94 = true) :
  Calls Tryz.prog 120 #[.pointer (some ⟨b, 0, none⟩)] w fun e w' => ∃ cs, e = .returned (.agg cs.toArray) ∧ RuleV n w' (fun k => w.heap.size ≤ k) cs (ruleF s.data.toList n r).2 ∧ ReaderAt w' b s (ruleF s.data.toList n r).1 nilS ∧ But b w w' := by
 have hsl : s.data.toList.length = s.size := by simp
 have p0 : r.pos ≤ s.size := by have := f.le; omega
 have HB : Hid (BlkCalls s n) := hB
 have HH : Hid (ReaderAt w b s r nilS) := h
 have hb : b < w.heap.size := World.block_lt_of_cell? w _ h.c0
 have hbn : ¬ b = w.heap.size := by omega
 clear hB h
 go_enter Tryz.func120, Tryz.ntmps120
 go_wp2_with fail
 refine (seesOne_but b s r nilS 97 122 _ (res_start HH.out _).rd hs p0).mono ?_
 rw [t0]
 rintro e w1 ⟨rfl, hr1, hb1⟩
 have L1 := (res_start HH.out _).call hr1 hb1
 have HL1 : Hid _ := L1
 clear hr1 hb1
 obtain ⟨rd, h0, h1, h2, h3, h4, h5, h6, h7, hf, but, size, lt⟩ := L1
 clear rd but
 go_wp2_with fail
 refine (sees_but b s r nilS 94 _ HL1.out.rd hs p0).mono ?_
 rw [t1]
 rintro e w2 ⟨rfl, hr2, hb2⟩
 have L2 := HL1.out.call hr2 hb2
 have HL2 : Hid _ := L2
 clear HL1 h0 h1 h2 h3 h4 h5 h6 h7 hf size lt
 clear hr2 hb2
 obtain ⟨rd, h0, h1, h2, h3, h4, h5, h6, h7, hf, but, size, lt⟩ := L2
 clear rd but
 go_wp2_with fail
 refine (openRule_any s hs b r _ HL2.out.rd f n t0 t1).mono ?_
 rintro e w3 ⟨cs, rfl, hru, hr3, hb3⟩
 have L3 := HL2.out.call hr3 hb3
 have HL3 : Hid _ := L3
 have hru2 : RuleV n w3 (fun k => w.heap.size + 1 ≤ k) cs (ruleF s.data.toList n r).2 := ruleV_frame hru (fun k hk _ => ⟨by have j2 := HL2.out.size; (try simp at hk); omega, rfl⟩)
 clear hru
 generalize hq : (ruleF s.data.toList n r).2 = rule at *
 have HQ : Hid ((ruleF s.data.toList n r).2 = rule) := hq
 clear hq
 have HRU : Hid _ := hru2
 obtain ⟨ve, va, vb, hcs, hpe, hra, hrb⟩ := hru2
 subst hcs
 obtain ⟨ae, ne, ce, hve⟩ : ∃ aa nn cc, ve = .slice aa nn cc := by
  rcases Joins.ownsRow_forms hpe.1 with ⟨rfl, _⟩ | ⟨g, cap, rfl⟩ <;> exact ⟨_, _, _, rfl⟩
 obtain ⟨aa, na, ca, hva⟩ := rulesV_form hra
 obtain ⟨ab, nb, cb, hvb⟩ := rulesV_form hrb
 subst hve hva hvb
 clear hpe hra hrb
 clear HL2 h0 h1 h2 h3 h4 h5 h6 h7 hf size lt hr3 hb3
 obtain ⟨rd, h0, h1, h2, h3, h4, h5, h6, h7, hf, but, size, lt⟩ := L3
 clear rd but
 simp only [coreV, List.cons_append, List.nil_append]
 go_wp2_with fail
 refine bodyPost_ret (v := .agg #[.int .i64 rule.1.kind, .int .i64 rule.1.place, .int .i64 rule.1.name, .int .i64 rule.1.label, .int .i64 rule.1.count, .slice ae ne ce, .slice aa na ca, .slice ab nb cb]) (by simp [results, Tryz.results120, go_sem, h0, h1, h2, h3, h4, h5, h6, h7, hf]) rfl ?_
 obtain ⟨e1, e2, e3⟩ := res_end HL3.out (.int .i64 rule.1.kind) (.int .i64 rule.1.place) (.int .i64 rule.1.name) (.int .i64 rule.1.label) (.int .i64 rule.1.count) (.slice ae ne ce) (.slice aa na ca) (.slice ab nb cb)
 rw [HQ.out]
 exact ⟨[.int .i64 rule.1.kind, .int .i64 rule.1.place, .int .i64 rule.1.name, .int .i64 rule.1.label, .int .i64 rule.1.count, .slice ae ne ce, .slice aa na ca, .slice ab nb cb], rfl, e3 _ _ _ HRU.out, e1, e2⟩
set_option maxHeartbeats 1000000 in
theorem rule_tell (s : ByteArray) (hs : s.size ≤ 400) (b : Nat) (r : Rd) (w : World) (h : ReaderAt w b s r nilS) (f : FitB s.data.toList r) (n : Nat) (hB : BlkCalls s n) (hn : 8 ≤ r.depth + n) (t0 : r.seesOne s.data.toList 97 122 = false) (t1 : r.seesOne s.data.toList 94 94 = false) (t2 : r.seesOne s.data.toList 62 62 = true) :
  Calls Tryz.prog 120 #[.pointer (some ⟨b, 0, none⟩)] w fun e w' => ∃ cs, e = .returned (.agg cs.toArray) ∧ RuleV n w' (fun k => w.heap.size ≤ k) cs (ruleF s.data.toList n r).2 ∧ ReaderAt w' b s (ruleF s.data.toList n r).1 nilS ∧ But b w w' := by
 have hsl : s.data.toList.length = s.size := by simp
 have p0 : r.pos ≤ s.size := by have := f.le; omega
 have HB : Hid (BlkCalls s n) := hB
 have HH : Hid (ReaderAt w b s r nilS) := h
 have hb : b < w.heap.size := World.block_lt_of_cell? w _ h.c0
 have hbn : ¬ b = w.heap.size := by omega
 clear hB h
 go_enter Tryz.func120, Tryz.ntmps120
 go_wp2_with fail
 refine (seesOne_but b s r nilS 97 122 _ (res_start HH.out _).rd hs p0).mono ?_
 rw [t0]
 rintro e w1 ⟨rfl, hr1, hb1⟩
 have L1 := (res_start HH.out _).call hr1 hb1
 have HL1 : Hid _ := L1
 clear hr1 hb1
 obtain ⟨rd, h0, h1, h2, h3, h4, h5, h6, h7, hf, but, size, lt⟩ := L1
 clear rd but
 go_wp2_with fail
 refine (sees_but b s r nilS 94 _ HL1.out.rd hs p0).mono ?_
 rw [t1]
 rintro e w2 ⟨rfl, hr2, hb2⟩
 have L2 := HL1.out.call hr2 hb2
 have HL2 : Hid _ := L2
 clear HL1 h0 h1 h2 h3 h4 h5 h6 h7 hf size lt
 clear hr2 hb2
 obtain ⟨rd, h0, h1, h2, h3, h4, h5, h6, h7, hf, but, size, lt⟩ := L2
 clear rd but
 go_wp2_with fail
 refine (sees_but b s r nilS 62 _ HL2.out.rd hs p0).mono ?_
 rw [t2]
 rintro e w3 ⟨rfl, hr3, hb3⟩
 have L3 := HL2.out.call hr3 hb3
 have HL3 : Hid _ := L3
 clear HL2 h0 h1 h2 h3 h4 h5 h6 h7 hf size lt
 clear hr3 hb3
 obtain ⟨rd, h0, h1, h2, h3, h4, h5, h6, h7, hf, but, size, lt⟩ := L3
 clear rd but
 go_wp2_with fail
 refine (tellRule_any s hs b r _ HL3.out.rd f n t0 t1 t2).mono ?_
 rintro e w4 ⟨cs, rfl, hru, hr4, hb4⟩
 have L4 := HL3.out.call hr4 hb4
 have HL4 : Hid _ := L4
 have hru2 : RuleV n w4 (fun k => w.heap.size + 1 ≤ k) cs (ruleF s.data.toList n r).2 := ruleV_frame hru (fun k hk _ => ⟨by have j2 := HL3.out.size; (try simp at hk); omega, rfl⟩)
 clear hru
 generalize hq : (ruleF s.data.toList n r).2 = rule at *
 have HQ : Hid ((ruleF s.data.toList n r).2 = rule) := hq
 clear hq
 have HRU : Hid _ := hru2
 obtain ⟨ve, va, vb, hcs, hpe, hra, hrb⟩ := hru2
 subst hcs
 obtain ⟨ae, ne, ce, hve⟩ : ∃ aa nn cc, ve = .slice aa nn cc := by
  rcases Joins.ownsRow_forms hpe.1 with ⟨rfl, _⟩ | ⟨g, cap, rfl⟩ <;> exact ⟨_, _, _, rfl⟩
 obtain ⟨aa, na, ca, hva⟩ := rulesV_form hra
 obtain ⟨ab, nb, cb, hvb⟩ := rulesV_form hrb
 subst hve hva hvb
 clear hpe hra hrb
 clear HL3 h0 h1 h2 h3 h4 h5 h6 h7 hf size lt hr4 hb4
 obtain ⟨rd, h0, h1, h2, h3, h4, h5, h6, h7, hf, but, size, lt⟩ := L4
 clear rd but
 simp only [coreV, List.cons_append, List.nil_append]
 go_wp2_with fail
 refine bodyPost_ret (v := .agg #[.int .i64 rule.1.kind, .int .i64 rule.1.place, .int .i64 rule.1.name, .int .i64 rule.1.label, .int .i64 rule.1.count, .slice ae ne ce, .slice aa na ca, .slice ab nb cb]) (by simp [results, Tryz.results120, go_sem, h0, h1, h2, h3, h4, h5, h6, h7, hf]) rfl ?_
 obtain ⟨e1, e2, e3⟩ := res_end HL4.out (.int .i64 rule.1.kind) (.int .i64 rule.1.place) (.int .i64 rule.1.name) (.int .i64 rule.1.label) (.int .i64 rule.1.count) (.slice ae ne ce) (.slice aa na ca) (.slice ab nb cb)
 rw [HQ.out]
 exact ⟨[.int .i64 rule.1.kind, .int .i64 rule.1.place, .int .i64 rule.1.name, .int .i64 rule.1.label, .int .i64 rule.1.count, .slice ae ne ce, .slice aa na ca, .slice ab nb cb], rfl, e3 _ _ _ HRU.out, e1, e2⟩
set_option maxHeartbeats 1000000 in
theorem rule_cond1 (s : ByteArray) (hs : s.size ≤ 400) (b : Nat) (r : Rd) (w : World) (h : ReaderAt w b s r nilS) (f : FitB s.data.toList r) (n : Nat) (hB : BlkCalls s n) (hn : 8 ≤ r.depth + n) (t0 : r.seesOne s.data.toList 97 122 = false) (t1 : r.seesOne s.data.toList 94 94 = false) (t2 : r.seesOne s.data.toList 62 62 = false) (t3 : r.seesOne s.data.toList 40 40 = true) (hsec : (blockF s.data.toList n ((exprU s.data.toList (r.opening s.data.toList 40)).1.closing s.data.toList 41)).1.seesOne s.data.toList 123 123 = false) :
  Calls Tryz.prog 120 #[.pointer (some ⟨b, 0, none⟩)] w fun e w' => ∃ cs, e = .returned (.agg cs.toArray) ∧ RuleV n w' (fun k => w.heap.size ≤ k) cs (ruleF s.data.toList n r).2 ∧ ReaderAt w' b s (ruleF s.data.toList n r).1 nilS ∧ But b w w' := by
 have hsl : s.data.toList.length = s.size := by simp
 have p0 : r.pos ≤ s.size := by have := f.le; omega
 have HB : Hid (BlkCalls s n) := hB
 have HH : Hid (ReaderAt w b s r nilS) := h
 have hb : b < w.heap.size := World.block_lt_of_cell? w _ h.c0
 have hbn : ¬ b = w.heap.size := by omega
 clear hB h
 go_enter Tryz.func120, Tryz.ntmps120
 go_wp2_with fail
 refine (seesOne_but b s r nilS 97 122 _ (res_start HH.out _).rd hs p0).mono ?_
 rw [t0]
 rintro e w1 ⟨rfl, hr1, hb1⟩
 have L1 := (res_start HH.out _).call hr1 hb1
 have HL1 : Hid _ := L1
 clear hr1 hb1
 obtain ⟨rd, h0, h1, h2, h3, h4, h5, h6, h7, hf, but, size, lt⟩ := L1
 clear rd but
 go_wp2_with fail
 refine (sees_but b s r nilS 94 _ HL1.out.rd hs p0).mono ?_
 rw [t1]
 rintro e w2 ⟨rfl, hr2, hb2⟩
 have L2 := HL1.out.call hr2 hb2
 have HL2 : Hid _ := L2
 clear HL1 h0 h1 h2 h3 h4 h5 h6 h7 hf size lt
 clear hr2 hb2
 obtain ⟨rd, h0, h1, h2, h3, h4, h5, h6, h7, hf, but, size, lt⟩ := L2
 clear rd but
 go_wp2_with fail
 refine (sees_but b s r nilS 62 _ HL2.out.rd hs p0).mono ?_
 rw [t2]
 rintro e w3 ⟨rfl, hr3, hb3⟩
 have L3 := HL2.out.call hr3 hb3
 have HL3 : Hid _ := L3
 clear HL2 h0 h1 h2 h3 h4 h5 h6 h7 hf size lt
 clear hr3 hb3
 obtain ⟨rd, h0, h1, h2, h3, h4, h5, h6, h7, hf, but, size, lt⟩ := L3
 clear rd but
 go_wp2_with fail
 refine (sees_but b s r nilS 40 _ HL3.out.rd hs p0).mono ?_
 rw [t3]
 rintro e w4 ⟨rfl, hr4, hb4⟩
 have L4 := HL3.out.call hr4 hb4
 have HL4 : Hid _ := L4
 clear HL3 h0 h1 h2 h3 h4 h5 h6 h7 hf size lt
 clear hr4 hb4
 obtain ⟨rd, h0, h1, h2, h3, h4, h5, h6, h7, hf, but, size, lt⟩ := L4
 clear rd but
 go_wp2_with fail
 refine (condRule1_any s hs b r _ HL4.out.rd f n HB.out hn t0 t1 t2 t3 hsec).mono ?_
 rintro e w5 ⟨cs, rfl, hru, hr5, hb5⟩
 have L5 := HL4.out.call hr5 hb5
 have HL5 : Hid _ := L5
 have hru2 : RuleV n w5 (fun k => w.heap.size + 1 ≤ k) cs (ruleF s.data.toList n r).2 := ruleV_frame hru (fun k hk _ => ⟨by have j2 := HL4.out.size; (try simp at hk); omega, rfl⟩)
 clear hru
 generalize hq : (ruleF s.data.toList n r).2 = rule at *
 have HQ : Hid ((ruleF s.data.toList n r).2 = rule) := hq
 clear hq
 have HRU : Hid _ := hru2
 obtain ⟨ve, va, vb, hcs, hpe, hra, hrb⟩ := hru2
 subst hcs
 obtain ⟨ae, ne, ce, hve⟩ : ∃ aa nn cc, ve = .slice aa nn cc := by
  rcases Joins.ownsRow_forms hpe.1 with ⟨rfl, _⟩ | ⟨g, cap, rfl⟩ <;> exact ⟨_, _, _, rfl⟩
 obtain ⟨aa, na, ca, hva⟩ := rulesV_form hra
 obtain ⟨ab, nb, cb, hvb⟩ := rulesV_form hrb
 subst hve hva hvb
 clear hpe hra hrb
 clear HL4 h0 h1 h2 h3 h4 h5 h6 h7 hf size lt hr5 hb5
 obtain ⟨rd, h0, h1, h2, h3, h4, h5, h6, h7, hf, but, size, lt⟩ := L5
 clear rd but
 simp only [coreV, List.cons_append, List.nil_append]
 go_wp2_with fail
 refine bodyPost_ret (v := .agg #[.int .i64 rule.1.kind, .int .i64 rule.1.place, .int .i64 rule.1.name, .int .i64 rule.1.label, .int .i64 rule.1.count, .slice ae ne ce, .slice aa na ca, .slice ab nb cb]) (by simp [results, Tryz.results120, go_sem, h0, h1, h2, h3, h4, h5, h6, h7, hf]) rfl ?_
 obtain ⟨e1, e2, e3⟩ := res_end HL5.out (.int .i64 rule.1.kind) (.int .i64 rule.1.place) (.int .i64 rule.1.name) (.int .i64 rule.1.label) (.int .i64 rule.1.count) (.slice ae ne ce) (.slice aa na ca) (.slice ab nb cb)
 rw [HQ.out]
 exact ⟨[.int .i64 rule.1.kind, .int .i64 rule.1.place, .int .i64 rule.1.name, .int .i64 rule.1.label, .int .i64 rule.1.count, .slice ae ne ce, .slice aa na ca, .slice ab nb cb], rfl, e3 _ _ _ HRU.out, e1, e2⟩
set_option maxHeartbeats 1000000 in
theorem rule_cond2 (s : ByteArray) (hs : s.size ≤ 400) (b : Nat) (r : Rd) (w : World) (h : ReaderAt w b s r nilS) (f : FitB s.data.toList r) (n : Nat) (hB : BlkCalls s n) (hn : 8 ≤ r.depth + n) (t0 : r.seesOne s.data.toList 97 122 = false) (t1 : r.seesOne s.data.toList 94 94 = false) (t2 : r.seesOne s.data.toList 62 62 = false) (t3 : r.seesOne s.data.toList 40 40 = true) (hsec : (blockF s.data.toList n ((exprU s.data.toList (r.opening s.data.toList 40)).1.closing s.data.toList 41)).1.seesOne s.data.toList 123 123 = true) :
  Calls Tryz.prog 120 #[.pointer (some ⟨b, 0, none⟩)] w fun e w' => ∃ cs, e = .returned (.agg cs.toArray) ∧ RuleV n w' (fun k => w.heap.size ≤ k) cs (ruleF s.data.toList n r).2 ∧ ReaderAt w' b s (ruleF s.data.toList n r).1 nilS ∧ But b w w' := by
 have hsl : s.data.toList.length = s.size := by simp
 have p0 : r.pos ≤ s.size := by have := f.le; omega
 have HB : Hid (BlkCalls s n) := hB
 have HH : Hid (ReaderAt w b s r nilS) := h
 have hb : b < w.heap.size := World.block_lt_of_cell? w _ h.c0
 have hbn : ¬ b = w.heap.size := by omega
 clear hB h
 go_enter Tryz.func120, Tryz.ntmps120
 go_wp2_with fail
 refine (seesOne_but b s r nilS 97 122 _ (res_start HH.out _).rd hs p0).mono ?_
 rw [t0]
 rintro e w1 ⟨rfl, hr1, hb1⟩
 have L1 := (res_start HH.out _).call hr1 hb1
 have HL1 : Hid _ := L1
 clear hr1 hb1
 obtain ⟨rd, h0, h1, h2, h3, h4, h5, h6, h7, hf, but, size, lt⟩ := L1
 clear rd but
 go_wp2_with fail
 refine (sees_but b s r nilS 94 _ HL1.out.rd hs p0).mono ?_
 rw [t1]
 rintro e w2 ⟨rfl, hr2, hb2⟩
 have L2 := HL1.out.call hr2 hb2
 have HL2 : Hid _ := L2
 clear HL1 h0 h1 h2 h3 h4 h5 h6 h7 hf size lt
 clear hr2 hb2
 obtain ⟨rd, h0, h1, h2, h3, h4, h5, h6, h7, hf, but, size, lt⟩ := L2
 clear rd but
 go_wp2_with fail
 refine (sees_but b s r nilS 62 _ HL2.out.rd hs p0).mono ?_
 rw [t2]
 rintro e w3 ⟨rfl, hr3, hb3⟩
 have L3 := HL2.out.call hr3 hb3
 have HL3 : Hid _ := L3
 clear HL2 h0 h1 h2 h3 h4 h5 h6 h7 hf size lt
 clear hr3 hb3
 obtain ⟨rd, h0, h1, h2, h3, h4, h5, h6, h7, hf, but, size, lt⟩ := L3
 clear rd but
 go_wp2_with fail
 refine (sees_but b s r nilS 40 _ HL3.out.rd hs p0).mono ?_
 rw [t3]
 rintro e w4 ⟨rfl, hr4, hb4⟩
 have L4 := HL3.out.call hr4 hb4
 have HL4 : Hid _ := L4
 clear HL3 h0 h1 h2 h3 h4 h5 h6 h7 hf size lt
 clear hr4 hb4
 obtain ⟨rd, h0, h1, h2, h3, h4, h5, h6, h7, hf, but, size, lt⟩ := L4
 clear rd but
 go_wp2_with fail
 refine (condRule2_any s hs b r _ HL4.out.rd f n HB.out hn t0 t1 t2 t3 hsec).mono ?_
 rintro e w5 ⟨cs, rfl, hru, hr5, hb5⟩
 have L5 := HL4.out.call hr5 hb5
 have HL5 : Hid _ := L5
 have hru2 : RuleV n w5 (fun k => w.heap.size + 1 ≤ k) cs (ruleF s.data.toList n r).2 := ruleV_frame hru (fun k hk _ => ⟨by have j2 := HL4.out.size; (try simp at hk); omega, rfl⟩)
 clear hru
 generalize hq : (ruleF s.data.toList n r).2 = rule at *
 have HQ : Hid ((ruleF s.data.toList n r).2 = rule) := hq
 clear hq
 have HRU : Hid _ := hru2
 obtain ⟨ve, va, vb, hcs, hpe, hra, hrb⟩ := hru2
 subst hcs
 obtain ⟨ae, ne, ce, hve⟩ : ∃ aa nn cc, ve = .slice aa nn cc := by
  rcases Joins.ownsRow_forms hpe.1 with ⟨rfl, _⟩ | ⟨g, cap, rfl⟩ <;> exact ⟨_, _, _, rfl⟩
 obtain ⟨aa, na, ca, hva⟩ := rulesV_form hra
 obtain ⟨ab, nb, cb, hvb⟩ := rulesV_form hrb
 subst hve hva hvb
 clear hpe hra hrb
 clear HL4 h0 h1 h2 h3 h4 h5 h6 h7 hf size lt hr5 hb5
 obtain ⟨rd, h0, h1, h2, h3, h4, h5, h6, h7, hf, but, size, lt⟩ := L5
 clear rd but
 simp only [coreV, List.cons_append, List.nil_append]
 go_wp2_with fail
 refine bodyPost_ret (v := .agg #[.int .i64 rule.1.kind, .int .i64 rule.1.place, .int .i64 rule.1.name, .int .i64 rule.1.label, .int .i64 rule.1.count, .slice ae ne ce, .slice aa na ca, .slice ab nb cb]) (by simp [results, Tryz.results120, go_sem, h0, h1, h2, h3, h4, h5, h6, h7, hf]) rfl ?_
 obtain ⟨e1, e2, e3⟩ := res_end HL5.out (.int .i64 rule.1.kind) (.int .i64 rule.1.place) (.int .i64 rule.1.name) (.int .i64 rule.1.label) (.int .i64 rule.1.count) (.slice ae ne ce) (.slice aa na ca) (.slice ab nb cb)
 rw [HQ.out]
 exact ⟨[.int .i64 rule.1.kind, .int .i64 rule.1.place, .int .i64 rule.1.name, .int .i64 rule.1.label, .int .i64 rule.1.count, .slice ae ne ce, .slice aa na ca, .slice ab nb cb], rfl, e3 _ _ _ HRU.out, e1, e2⟩
set_option maxHeartbeats 1000000 in
theorem rule_loop (s : ByteArray) (hs : s.size ≤ 400) (b : Nat) (r : Rd) (w : World) (h : ReaderAt w b s r nilS) (f : FitB s.data.toList r) (n : Nat) (hB : BlkCalls s n) (hn : 8 ≤ r.depth + n) (t0 : r.seesOne s.data.toList 97 122 = false) (t1 : r.seesOne s.data.toList 94 94 = false) (t2 : r.seesOne s.data.toList 62 62 = false) (t3 : r.seesOne s.data.toList 40 40 = false) (t4 : r.seesOne s.data.toList 42 42 = true) :
  Calls Tryz.prog 120 #[.pointer (some ⟨b, 0, none⟩)] w fun e w' => ∃ cs, e = .returned (.agg cs.toArray) ∧ RuleV n w' (fun k => w.heap.size ≤ k) cs (ruleF s.data.toList n r).2 ∧ ReaderAt w' b s (ruleF s.data.toList n r).1 nilS ∧ But b w w' := by
 have hsl : s.data.toList.length = s.size := by simp
 have p0 : r.pos ≤ s.size := by have := f.le; omega
 have HB : Hid (BlkCalls s n) := hB
 have HH : Hid (ReaderAt w b s r nilS) := h
 have hb : b < w.heap.size := World.block_lt_of_cell? w _ h.c0
 have hbn : ¬ b = w.heap.size := by omega
 clear hB h
 go_enter Tryz.func120, Tryz.ntmps120
 go_wp2_with fail
 refine (seesOne_but b s r nilS 97 122 _ (res_start HH.out _).rd hs p0).mono ?_
 rw [t0]
 rintro e w1 ⟨rfl, hr1, hb1⟩
 have L1 := (res_start HH.out _).call hr1 hb1
 have HL1 : Hid _ := L1
 clear hr1 hb1
 obtain ⟨rd, h0, h1, h2, h3, h4, h5, h6, h7, hf, but, size, lt⟩ := L1
 clear rd but
 go_wp2_with fail
 refine (sees_but b s r nilS 94 _ HL1.out.rd hs p0).mono ?_
 rw [t1]
 rintro e w2 ⟨rfl, hr2, hb2⟩
 have L2 := HL1.out.call hr2 hb2
 have HL2 : Hid _ := L2
 clear HL1 h0 h1 h2 h3 h4 h5 h6 h7 hf size lt
 clear hr2 hb2
 obtain ⟨rd, h0, h1, h2, h3, h4, h5, h6, h7, hf, but, size, lt⟩ := L2
 clear rd but
 go_wp2_with fail
 refine (sees_but b s r nilS 62 _ HL2.out.rd hs p0).mono ?_
 rw [t2]
 rintro e w3 ⟨rfl, hr3, hb3⟩
 have L3 := HL2.out.call hr3 hb3
 have HL3 : Hid _ := L3
 clear HL2 h0 h1 h2 h3 h4 h5 h6 h7 hf size lt
 clear hr3 hb3
 obtain ⟨rd, h0, h1, h2, h3, h4, h5, h6, h7, hf, but, size, lt⟩ := L3
 clear rd but
 go_wp2_with fail
 refine (sees_but b s r nilS 40 _ HL3.out.rd hs p0).mono ?_
 rw [t3]
 rintro e w4 ⟨rfl, hr4, hb4⟩
 have L4 := HL3.out.call hr4 hb4
 have HL4 : Hid _ := L4
 clear HL3 h0 h1 h2 h3 h4 h5 h6 h7 hf size lt
 clear hr4 hb4
 obtain ⟨rd, h0, h1, h2, h3, h4, h5, h6, h7, hf, but, size, lt⟩ := L4
 clear rd but
 go_wp2_with fail
 refine (sees_but b s r nilS 42 _ HL4.out.rd hs p0).mono ?_
 rw [t4]
 rintro e w5 ⟨rfl, hr5, hb5⟩
 have L5 := HL4.out.call hr5 hb5
 have HL5 : Hid _ := L5
 clear HL4 h0 h1 h2 h3 h4 h5 h6 h7 hf size lt
 clear hr5 hb5
 obtain ⟨rd, h0, h1, h2, h3, h4, h5, h6, h7, hf, but, size, lt⟩ := L5
 clear rd but
 go_wp2_with fail
 refine (loopRule_any s hs b r _ HL5.out.rd f n HB.out hn t0 t1 t2 t3 t4).mono ?_
 rintro e w6 ⟨cs, rfl, hru, hr6, hb6⟩
 have L6 := HL5.out.call hr6 hb6
 have HL6 : Hid _ := L6
 have hru2 : RuleV n w6 (fun k => w.heap.size + 1 ≤ k) cs (ruleF s.data.toList n r).2 := ruleV_frame hru (fun k hk _ => ⟨by have j2 := HL5.out.size; (try simp at hk); omega, rfl⟩)
 clear hru
 generalize hq : (ruleF s.data.toList n r).2 = rule at *
 have HQ : Hid ((ruleF s.data.toList n r).2 = rule) := hq
 clear hq
 have HRU : Hid _ := hru2
 obtain ⟨ve, va, vb, hcs, hpe, hra, hrb⟩ := hru2
 subst hcs
 obtain ⟨ae, ne, ce, hve⟩ : ∃ aa nn cc, ve = .slice aa nn cc := by
  rcases Joins.ownsRow_forms hpe.1 with ⟨rfl, _⟩ | ⟨g, cap, rfl⟩ <;> exact ⟨_, _, _, rfl⟩
 obtain ⟨aa, na, ca, hva⟩ := rulesV_form hra
 obtain ⟨ab, nb, cb, hvb⟩ := rulesV_form hrb
 subst hve hva hvb
 clear hpe hra hrb
 clear HL5 h0 h1 h2 h3 h4 h5 h6 h7 hf size lt hr6 hb6
 obtain ⟨rd, h0, h1, h2, h3, h4, h5, h6, h7, hf, but, size, lt⟩ := L6
 clear rd but
 simp only [coreV, List.cons_append, List.nil_append]
 go_wp2_with fail
 refine bodyPost_ret (v := .agg #[.int .i64 rule.1.kind, .int .i64 rule.1.place, .int .i64 rule.1.name, .int .i64 rule.1.label, .int .i64 rule.1.count, .slice ae ne ce, .slice aa na ca, .slice ab nb cb]) (by simp [results, Tryz.results120, go_sem, h0, h1, h2, h3, h4, h5, h6, h7, hf]) rfl ?_
 obtain ⟨e1, e2, e3⟩ := res_end HL6.out (.int .i64 rule.1.kind) (.int .i64 rule.1.place) (.int .i64 rule.1.name) (.int .i64 rule.1.label) (.int .i64 rule.1.count) (.slice ae ne ce) (.slice aa na ca) (.slice ab nb cb)
 rw [HQ.out]
 exact ⟨[.int .i64 rule.1.kind, .int .i64 rule.1.place, .int .i64 rule.1.name, .int .i64 rule.1.label, .int .i64 rule.1.count, .slice ae ne ce, .slice aa na ca, .slice ab nb cb], rfl, e3 _ _ _ HRU.out, e1, e2⟩
set_option maxHeartbeats 1000000 in
theorem rule_none (s : ByteArray) (hs : s.size ≤ 400) (b : Nat) (r : Rd) (w : World) (h : ReaderAt w b s r nilS) (f : FitB s.data.toList r) (n : Nat) (hB : BlkCalls s n) (hn : 8 ≤ r.depth + n) (t0 : r.seesOne s.data.toList 97 122 = false) (t1 : r.seesOne s.data.toList 94 94 = false) (t2 : r.seesOne s.data.toList 62 62 = false) (t3 : r.seesOne s.data.toList 40 40 = false) (t4 : r.seesOne s.data.toList 42 42 = false) :
  Calls Tryz.prog 120 #[.pointer (some ⟨b, 0, none⟩)] w fun e w' => ∃ cs, e = .returned (.agg cs.toArray) ∧ RuleV n w' (fun k => w.heap.size ≤ k) cs (ruleF s.data.toList n r).2 ∧ ReaderAt w' b s (ruleF s.data.toList n r).1 nilS ∧ But b w w' := by
 unfold ruleF ruleU
 rw [if_neg (by rw [t0]; decide), if_neg (by rw [t1]; decide), if_neg (by rw [t2]; decide), if_neg (by rw [t3]; decide), if_neg (by rw [t4]; decide)]
 have hsl : s.data.toList.length = s.size := by simp
 have p0 : r.pos ≤ s.size := by have := f.le; omega
 have HB : Hid (BlkCalls s n) := hB
 have HH : Hid (ReaderAt w b s r nilS) := h
 have hb : b < w.heap.size := World.block_lt_of_cell? w _ h.c0
 have hbn : ¬ b = w.heap.size := by omega
 clear hB h
 go_enter Tryz.func120, Tryz.ntmps120
 go_wp2_with fail
 refine (seesOne_but b s r nilS 97 122 _ (res_start HH.out _).rd hs p0).mono ?_
 rw [t0]
 rintro e w1 ⟨rfl, hr1, hb1⟩
 have L1 := (res_start HH.out _).call hr1 hb1
 have HL1 : Hid _ := L1
 clear hr1 hb1
 obtain ⟨rd, h0, h1, h2, h3, h4, h5, h6, h7, hf, but, size, lt⟩ := L1
 clear rd but
 go_wp2_with fail
 refine (sees_but b s r nilS 94 _ HL1.out.rd hs p0).mono ?_
 rw [t1]
 rintro e w2 ⟨rfl, hr2, hb2⟩
 have L2 := HL1.out.call hr2 hb2
 have HL2 : Hid _ := L2
 clear HL1 h0 h1 h2 h3 h4 h5 h6 h7 hf size lt
 clear hr2 hb2
 obtain ⟨rd, h0, h1, h2, h3, h4, h5, h6, h7, hf, but, size, lt⟩ := L2
 clear rd but
 go_wp2_with fail
 refine (sees_but b s r nilS 62 _ HL2.out.rd hs p0).mono ?_
 rw [t2]
 rintro e w3 ⟨rfl, hr3, hb3⟩
 have L3 := HL2.out.call hr3 hb3
 have HL3 : Hid _ := L3
 clear HL2 h0 h1 h2 h3 h4 h5 h6 h7 hf size lt
 clear hr3 hb3
 obtain ⟨rd, h0, h1, h2, h3, h4, h5, h6, h7, hf, but, size, lt⟩ := L3
 clear rd but
 go_wp2_with fail
 refine (sees_but b s r nilS 40 _ HL3.out.rd hs p0).mono ?_
 rw [t3]
 rintro e w4 ⟨rfl, hr4, hb4⟩
 have L4 := HL3.out.call hr4 hb4
 have HL4 : Hid _ := L4
 clear HL3 h0 h1 h2 h3 h4 h5 h6 h7 hf size lt
 clear hr4 hb4
 obtain ⟨rd, h0, h1, h2, h3, h4, h5, h6, h7, hf, but, size, lt⟩ := L4
 clear rd but
 go_wp2_with fail
 refine (sees_but b s r nilS 42 _ HL4.out.rd hs p0).mono ?_
 rw [t4]
 rintro e w5 ⟨rfl, hr5, hb5⟩
 have L5 := HL4.out.call hr5 hb5
 have HL5 : Hid _ := L5
 clear HL4 h0 h1 h2 h3 h4 h5 h6 h7 hf size lt
 clear hr5 hb5
 obtain ⟨rd, h0, h1, h2, h3, h4, h5, h6, h7, hf, but, size, lt⟩ := L5
 clear rd but
 go_wp2_with fail
 refine (fail_any b s r nilS _ HL5.out.rd).mono ?_
 rintro e w6 ⟨rfl, hr6, hb6⟩
 have L6 := HL5.out.call hr6 hb6
 have HL6 : Hid _ := L6
 clear HL5 h0 h1 h2 h3 h4 h5 h6 h7 hf size lt
 clear hr6 hb6
 obtain ⟨rd, h0, h1, h2, h3, h4, h5, h6, h7, hf, but, size, lt⟩ := L6
 clear rd but
 go_wp2_with fail
 refine bodyPost_ret (v := .agg #[.int .i64 0, .int .i64 0, .int .i64 0, .int .i64 0, .int .i64 0, .slice none 0 0, .slice none 0 0, .slice none 0 0]) (by simp [results, Tryz.results120, go_sem, h0, h1, h2, h3, h4, h5, h6, h7, hf]) rfl ?_
 obtain ⟨e1, e2, e3⟩ := res_end HL6.out (.int .i64 0) (.int .i64 0) (.int .i64 0) (.int .i64 0) (.int .i64 0) (.slice none 0 0) (.slice none 0 0) (.slice none 0 0)
 exact ⟨[.int .i64 0, .int .i64 0, .int .i64 0, .int .i64 0, .int .i64 0, .slice none 0 0, .slice none 0 0, .slice none 0 0], rfl, ⟨_, _, _, rfl, partsV_nil _ _, rulesV_nil _ _ _, rulesV_nil _ _ _⟩, e1, e2⟩
theorem rule_rd (s : ByteArray) (hs : s.size ≤ 400) (b : Nat) (r : Rd) (w : World) (h : ReaderAt w b s r nilS) (f : FitB s.data.toList r) (n : Nat) (hB : BlkCalls s n) (hn : 8 ≤ r.depth + n) :
  Calls Tryz.prog 120 #[.pointer (some ⟨b, 0, none⟩)] w fun e w' => ∃ cs, e = .returned (.agg cs.toArray) ∧ RuleV n w' (fun k => w.heap.size ≤ k) cs (ruleF s.data.toList n r).2 ∧ ReaderAt w' b s (ruleF s.data.toList n r).1 nilS ∧ But b w w' := by
 cases t0 : r.seesOne s.data.toList 97 122
 case true => exact rule_give s hs b r w h f n hB hn t0
 cases t1 : r.seesOne s.data.toList 94 94
 case true => exact rule_open s hs b r w h f n hB hn t0 t1
 cases t2 : r.seesOne s.data.toList 62 62
 case true => exact rule_tell s hs b r w h f n hB hn t0 t1 t2
 cases t3 : r.seesOne s.data.toList 40 40
 case true =>
  cases hsec : (blockF s.data.toList n ((exprU s.data.toList (r.opening s.data.toList 40)).1.closing s.data.toList 41)).1.seesOne s.data.toList 123 123
  ·exact rule_cond1 s hs b r w h f n hB hn t0 t1 t2 t3 hsec
  ·exact rule_cond2 s hs b r w h f n hB hn t0 t1 t2 t3 hsec
 cases t4 : r.seesOne s.data.toList 42 42
 case true => exact rule_loop s hs b r w h f n hB hn t0 t1 t2 t3 t4
 exact rule_none s hs b r w h f n hB hn t0 t1 t2 t3 t4
end Go.Proofs.YtdgmoiflahoihaaGreatDoor
