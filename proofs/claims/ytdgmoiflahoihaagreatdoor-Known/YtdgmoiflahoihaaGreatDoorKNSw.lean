import Derived.Test.YtdgmoiflahoihaaGreatDoorKNRw
import Derived.Test.YtdgmoiflahoihaaGreatDoorLNtw
import Derived.Test.YtdgmoiflahoihaaGreatDoorLNmw
import Derived.Test.YtdgmoiflahoihaaGreatDoorBDXw
import Derived.Deep.Cut

namespace Go.Proofs.YtdgmoiflahoihaaGreatDoor
open Go.RowKit
set_option linter.unusedSimpArgs false
set_option linter.unusedVariables false
structure Rn where
 text : List UInt8
 fields : List Int
 notes : List Nt
def rans : List Rn := [
 ⟨[63, 112, 58, 45, 59, 63, 110, 58, 45, 59, 62, 45, 112, 42, 110, 59], [250, 4], [⟨0, 10, 0, ⟨1000, 0⟩⟩]⟩,
 ⟨[120, 61, 55, 59, 42, 51, 123, 120, 61, 120, 42, 120, 59, 62, 45, 120, 59, 125], [], [⟨0, 13, 0, ⟨49, 0⟩⟩, ⟨0, 13, 0, ⟨2401, 0⟩⟩, ⟨0, 13, 0, ⟨5764801, 0⟩⟩]⟩,
 ⟨[42, 50, 123, 62, 45, 49, 47, 48, 59, 62, 45, 57, 37, 45, 52, 59, 125], [], [⟨0, 3, 0, ⟨0, 2⟩⟩, ⟨0, 9, 0, ⟨1, 0⟩⟩, ⟨0, 3, 0, ⟨0, 2⟩⟩, ⟨0, 9, 0, ⟨1, 0⟩⟩]⟩,
 ⟨[40, 49, 47, 48, 41, 123, 62, 45, 49, 59, 125, 123, 62, 45, 50, 59, 125, 62, 45, 51, 59], [], [⟨0, 17, 0, ⟨3, 0⟩⟩]⟩,
 ⟨[63, 97, 58, 65, 59, 94, 120, 58, 45, 61, 97, 47, 49, 48, 59, 62, 45, 120, 59], [123], [⟨1, 5, 0, ⟨12, 0⟩⟩, ⟨0, 15, 0, ⟨12, 0⟩⟩]⟩,
 ⟨[40, 48, 41, 123, 62, 45, 49, 59, 125, 123, 62, 45, 50, 59, 125], [], [⟨0, 10, 0, ⟨2, 0⟩⟩]⟩,
 ⟨[62, 45, 50, 45, 51, 45, 52, 59, 62, 45, 50, 43, 51, 42, 52, 59, 62, 45, 49, 48, 48, 47, 55, 47, 50, 59, 62, 45, 40, 50, 45, 51, 41, 42, 45, 52, 59], [], [⟨0, 0, 0, ⟨(-5), 0⟩⟩, ⟨0, 8, 0, ⟨14, 0⟩⟩, ⟨0, 16, 0, ⟨7, 0⟩⟩, ⟨0, 26, 0, ⟨4, 0⟩⟩]⟩]
def ranAt (k : Nat) : Rn := rans.getD k ⟨[], [], []⟩
def noteV (x : Nt) : Value := .agg #[.int .i64 x.kind, .int .i64 x.place, .int .i64 x.label, .int .i64 x.val.num, .int .i64 x.val.fault]
def NtsP (l : List Nt) (v : Value) (w : World) : Prop := ∃ g, v = .slice (some ⟨g, 0, none⟩) l.length l.length ∧ NoteCells w (some ⟨g, 0, none⟩) g l
def FldP (l : List Int) (v : Value) (w : World) : Prop := ∃ ao g, v = .slice ao l.length l.length ∧ NumCells w ao g 0 l
def RanP (x : Rn) (v : Value) (w : World) : Prop := ∃ vf vn, v = .agg #[.string (txt x.text), vf, vn] ∧ FldP x.fields vf w ∧ NtsP x.notes vn w
def RansP (v : Value) (w : World) : Prop := ∃ g, v = .slice (some ⟨g, 0, none⟩) 7 7 ∧ g < w.heap.size ∧ ∀ k, k < 7 → ∃ vf vn, w.cell? ⟨g, k * 3, none⟩ = some (.string (txt (ranAt k).text)) ∧ w.cell? ⟨g, k * 3 + 1, none⟩ = some vf ∧ w.cell? ⟨g, k * 3 + 2, none⟩ = some vn ∧ FldP (ranAt k).fields vf w ∧ NtsP (ranAt k).notes vn w
theorem NtsP.below {l : List Nt} {v : Value} {w w' : World} (h : NtsP l v w) (hb : Below w.heap.size w w') : NtsP l v w' := by
 obtain ⟨g, e, hc⟩ := h
 exact ⟨g, e, hc.below hb⟩
theorem FldP.below {l : List Int} {v : Value} {w w' : World} (h : FldP l v w) (hb : Below w.heap.size w w') : FldP l v w' := by
 obtain ⟨ao, g, e, hc⟩ := h
 exact ⟨ao, g, e, hc.below hb⟩
theorem RanP.below {x : Rn} {v : Value} {w w' : World} (h : RanP x v w) (hb : Below w.heap.size w w') : RanP x v w' := by
 obtain ⟨vf, vn, e, h1, h2⟩ := h
 exact ⟨vf, vn, e, h1.below hb, h2.below hb⟩
theorem RansP.below {v : Value} {w w' : World} (h : RansP v w) (hb : Below w.heap.size w w') : RansP v w' := by
 obtain ⟨g, e, hg, hk⟩ := h
 refine ⟨g, e, Nat.lt_of_lt_of_le hg hb.size, fun k hk7 => ?_⟩
 obtain ⟨vf, vn, c0, c1, c2, h1, h2⟩ := hk k hk7
 exact ⟨vf, vn, (hb.cell (p := ⟨g, _, none⟩) hg).trans c0, (hb.cell (p := ⟨g, _, none⟩) hg).trans c1, (hb.cell (p := ⟨g, _, none⟩) hg).trans c2, h1.below hb, h2.below hb⟩
def runsPd : Nat → Value → World → Prop
 | 0, v, w => FldP [250, 4] v w
 | 1, v, w => v = noteV ⟨0, 10, 0, ⟨1000, 0⟩⟩
 | 2, v, w => NtsP (ranAt 0).notes v w
 | 3, v, w => RanP (ranAt 0) v w
 | 4, v, w => v = noteV ⟨0, 13, 0, ⟨49, 0⟩⟩
 | 5, v, w => v = noteV ⟨0, 13, 0, ⟨2401, 0⟩⟩
 | 6, v, w => v = noteV ⟨0, 13, 0, ⟨5764801, 0⟩⟩
 | 7, v, w => NtsP (ranAt 1).notes v w
 | 8, v, w => RanP (ranAt 1) v w
 | 9, v, w => v = noteV ⟨0, 3, 0, ⟨0, 2⟩⟩
 | 10, v, w => v = noteV ⟨0, 9, 0, ⟨1, 0⟩⟩
 | 11, v, w => v = noteV ⟨0, 3, 0, ⟨0, 2⟩⟩
 | 12, v, w => v = noteV ⟨0, 9, 0, ⟨1, 0⟩⟩
 | 13, v, w => NtsP (ranAt 2).notes v w
 | 14, v, w => RanP (ranAt 2) v w
 | 15, v, w => v = noteV ⟨0, 17, 0, ⟨3, 0⟩⟩
 | 16, v, w => NtsP (ranAt 3).notes v w
 | 17, v, w => RanP (ranAt 3) v w
 | 18, v, w => FldP [123] v w
 | 19, v, w => v = noteV ⟨1, 5, 0, ⟨12, 0⟩⟩
 | 20, v, w => v = noteV ⟨0, 15, 0, ⟨12, 0⟩⟩
 | 21, v, w => NtsP (ranAt 4).notes v w
 | 22, v, w => RanP (ranAt 4) v w
 | 23, v, w => v = noteV ⟨0, 10, 0, ⟨2, 0⟩⟩
 | 24, v, w => NtsP (ranAt 5).notes v w
 | 25, v, w => RanP (ranAt 5) v w
 | 26, v, w => v = noteV ⟨0, 0, 0, ⟨(-5), 0⟩⟩
 | 27, v, w => v = noteV ⟨0, 8, 0, ⟨14, 0⟩⟩
 | 28, v, w => v = noteV ⟨0, 16, 0, ⟨7, 0⟩⟩
 | 29, v, w => v = noteV ⟨0, 26, 0, ⟨4, 0⟩⟩
 | 30, v, w => NtsP (ranAt 6).notes v w
 | 31, v, w => RanP (ranAt 6) v w
 | 32, v, w => RansP v w
 | 33, v, w => RansP v w
 | _, _, _ => True
theorem runsPd_below (j : Nat) (v : Value) (w w' : World) (h : runsPd j v w) (hb : Below w.heap.size w w') : runsPd j v w' := by
 match j, h with
 | 0, h => exact FldP.below h hb
 | 1, h => exact h
 | 2, h => exact NtsP.below h hb
 | 3, h => exact RanP.below h hb
 | 4, h => exact h
 | 5, h => exact h
 | 6, h => exact h
 | 7, h => exact NtsP.below h hb
 | 8, h => exact RanP.below h hb
 | 9, h => exact h
 | 10, h => exact h
 | 11, h => exact h
 | 12, h => exact h
 | 13, h => exact NtsP.below h hb
 | 14, h => exact RanP.below h hb
 | 15, h => exact h
 | 16, h => exact NtsP.below h hb
 | 17, h => exact RanP.below h hb
 | 18, h => exact FldP.below h hb
 | 19, h => exact h
 | 20, h => exact h
 | 21, h => exact NtsP.below h hb
 | 22, h => exact RanP.below h hb
 | 23, h => exact h
 | 24, h => exact NtsP.below h hb
 | 25, h => exact RanP.below h hb
 | 26, h => exact h
 | 27, h => exact h
 | 28, h => exact h
 | 29, h => exact h
 | 30, h => exact NtsP.below h hb
 | 31, h => exact RanP.below h hb
 | 32, h => exact RansP.below h hb
 | 33, h => exact RansP.below h hb
 | _ + 34, h => exact h
def runsDst (i : Nat) : Nat := if i = 33 then 0 else i + 4
theorem list37 {u : List Value} (h : u.length = 37) : ∃ u0 u1 u2 u3 u4 u5 u6 u7 u8 u9 u10 u11 u12 u13 u14 u15 u16 u17 u18 u19 u20 u21 u22 u23 u24 u25 u26 u27 u28 u29 u30 u31 u32 u33 u34 u35 u36, u = u0 :: u1 :: u2 :: u3 :: u4 :: u5 :: u6 :: u7 :: u8 :: u9 :: u10 :: u11 :: u12 :: u13 :: u14 :: u15 :: u16 :: u17 :: u18 :: u19 :: u20 :: u21 :: u22 :: u23 :: u24 :: u25 :: u26 :: u27 :: u28 :: u29 :: u30 :: u31 :: u32 :: u33 :: u34 :: u35 :: u36 :: [] := by
 match u, h with
 | u0 :: u1 :: u2 :: u3 :: u4 :: u5 :: u6 :: u7 :: u8 :: u9 :: u10 :: u11 :: u12 :: u13 :: u14 :: u15 :: u16 :: u17 :: u18 :: u19 :: u20 :: u21 :: u22 :: u23 :: u24 :: u25 :: u26 :: u27 :: u28 :: u29 :: u30 :: u31 :: u32 :: u33 :: u34 :: u35 :: u36 :: [], _ => exact ⟨u0, u1, u2, u3, u4, u5, u6, u7, u8, u9, u10, u11, u12, u13, u14, u15, u16, u17, u18, u19, u20, u21, u22, u23, u24, u25, u26, u27, u28, u29, u30, u31, u32, u33, u34, u35, u36, rfl⟩
theorem note_any (kind place num : Int) (w : World) : Calls Tryz.prog 37 #[.int .i64 kind, .int .i64 place, .int .i64 num] w fun e w' => e = .returned (.agg #[.int .i64 kind, .int .i64 place, .int .i64 0, .int .i64 num, .int .i64 0]) ∧ Below w.heap.size w w' := by
 have HB : Hid (Below w.heap.size w (w.alloc (.cells #[.int .i64 kind, .int .i64 place, .int .i64 0, .int .i64 num, .int .i64 0] 61))) := (Below.refl _ _).alloc (Nat.le_refl _) _
 go_enter Tryz.func37, Tryz.ntmps37
 go_wp2_with fail
 exact bodyPost_ret (v := .agg #[.int .i64 kind, .int .i64 place, .int .i64 0, .int .i64 num, .int .i64 0]) (by simp [results, Tryz.results37, go_sem]) rfl ⟨rfl, HB.out⟩
theorem nts_laid (l : List Nt) (w : World) (cs : Array Value) (t : TypeId) (h : cs = (ntCells l).toArray) : NtsP l (.slice (some ⟨w.heap.size, 0, none⟩) l.length l.length) (w.alloc (.cells cs t)) := by
 subst h
 refine ⟨w.heap.size, rfl, fun i hi => ?_⟩
 obtain ⟨c0, c1, c2, c3, c4⟩ := ntCells_at l i hi
 have he : (w.alloc (.cells (ntCells l).toArray t)).heap[w.heap.size]? = some (.cells (ntCells l).toArray t (0, 0)) := heap_alloc_new w _
 have hc : ∀ k, (w.alloc (.cells (ntCells l).toArray t)).cell? ⟨w.heap.size, k, none⟩ = (ntCells l)[k]? := fun k => by rw [cell_of_row _ _ _ _ _ _ he]; simp
 exact ⟨rfl, by simp, (hc _).trans c0, (hc _).trans c1, (hc _).trans c2, (hc _).trans c3, (hc _).trans c4⟩
theorem fld_laid (l : List Int) (w : World) (cs : Array Value) (t : TypeId) (h : cs = (numRow l).toArray) : FldP l (.slice (some ⟨w.heap.size, 0, none⟩) l.length l.length) (w.alloc (.cells cs t)) := by
 subst h
 refine ⟨_, w.heap.size, rfl, num_of_row (r := []) (t := t) ?_⟩
 rw [List.append_nil]
 exact heap_alloc_new w _
theorem rans_laid (w : World) (fs ns : List Value) (hf : ∀ k, k < 7 → FldP (ranAt k).fields (fs.getD k undef) w) (hn : ∀ k, k < 7 → NtsP (ranAt k).notes (ns.getD k undef) w) (cs : Array Value) (t : TypeId)
  (h : cs = (List.flatten ((List.range 7).map fun k => [Value.string (txt (ranAt k).text), fs.getD k undef, ns.getD k undef])).toArray) : RansP (.slice (some ⟨w.heap.size, 0, none⟩) 7 7) (w.alloc (.cells cs t)) := by
 have he : (w.alloc (.cells cs t)).heap[w.heap.size]? = some (.cells cs t (0, 0)) := heap_alloc_new w _
 have hc : ∀ k, (w.alloc (.cells cs t)).cell? ⟨w.heap.size, k, none⟩ = cs[k]? := fun k => by rw [cell_of_row _ _ _ _ _ _ he]
 have hb : Below w.heap.size w (w.alloc (.cells cs t)) := (Below.refl _ _).alloc (Nat.le_refl _) _
 refine ⟨w.heap.size, rfl, by simp, fun k hk => ⟨fs.getD k undef, ns.getD k undef, ?_, ?_, ?_, (hf k hk).below hb, (hn k hk).below hb⟩⟩
 all_goals rw [hc, h]
 all_goals clear he hc hb hf hn h
 all_goals match k, hk with
 | 0, _ => rfl
 | 1, _ => rfl
 | 2, _ => rfl
 | 3, _ => rfl
 | 4, _ => rfl
 | 5, _ => rfl
 | 6, _ => rfl
set_option maxRecDepth 100000 in
set_option maxHeartbeats 8000000 in
theorem runs_any (w : World) : Calls Tryz.prog 14 #[] w fun e w' => ∃ v, e = .returned v ∧ RansP v w' ∧ Below w.heap.size w w' := by
 have HB : Hid (Below w.heap.size w (w.alloc (.cells #[.int .i64 0, .int .i64 3, .int .i64 0, .int .i64 0, .int .i64 2] 61))) := (Below.refl _ _).alloc (Nat.le_refl _) _
 have hlay : (w.alloc (.cells #[.int .i64 0, .int .i64 3, .int .i64 0, .int .i64 0, .int .i64 2] 61)).heap[w.heap.size]? = some (.cells #[.int .i64 0, .int .i64 3, .int .i64 0, .int .i64 0, .int .i64 2] 61 (0, 0)) := heap_alloc_new w _
 have hsz : w.heap.size < (w.alloc (.cells #[.int .i64 0, .int .i64 3, .int .i64 0, .int .i64 0, .int .i64 2] 61)).heap.size := by simp
 have HZ : Hid (∀ w', Below (w.alloc (.cells #[.int .i64 0, .int .i64 3, .int .i64 0, .int .i64 0, .int .i64 2] 61)).heap.size (w.alloc (.cells #[.int .i64 0, .int .i64 3, .int .i64 0, .int .i64 0, .int .i64 2] 61)) w' → ∀ k, w'.cell? ⟨w.heap.size, k, none⟩ = (#[.int .i64 0, .int .i64 3, .int .i64 0, .int .i64 0, .int .i64 2] : Array Value)[k]?) := fun w' hb k => by
  rw [hb.cell (p := ⟨w.heap.size, k, none⟩) hsz, cell_of_row _ _ _ _ _ _ hlay]
 have HNT : Hid (∀ (kind place num : Int) (w : World), Calls Tryz.prog 37 #[.int .i64 kind, .int .i64 place, .int .i64 num] w fun e w' => e = .returned (.agg #[.int .i64 kind, .int .i64 place, .int .i64 0, .int .i64 num, .int .i64 0]) ∧ Below w.heap.size w w') := note_any
 clear hlay
 go_enter Tryz.func14, Tryz.ntmps14
 go_upto_region 2 with fail
 rename_i Q' KK hKK
 have HKK : Hid (∀ (a : Act) (w : World), Code.wp Tryz.prog Code.ret Q' a w → KK a w) := hKK
 clear hKK
 refine region_each 37 runsDst runsPd (.slice none 0 0 :: .pointer (some ⟨w.heap.size, 0, none⟩) :: .agg #[.int .i64 0, .int .i64 2] :: .agg #[.int .i64 0, .int .i64 3, .int .i64 0, .int .i64 0, .int .i64 2] :: undef :: undef :: undef :: undef :: undef :: undef :: undef :: undef :: undef :: undef :: undef :: undef :: undef :: undef :: undef :: undef :: undef :: undef :: undef :: undef :: undef :: undef :: undef :: undef :: undef :: undef :: undef :: undef :: undef :: undef :: undef :: undef :: undef :: []) (by kernel_rfl) rfl (fun i j e hi hj => ?_) (by kernel_rfl) runsPd_below (fun u wE hu hb hP => ?_) ?_
 ·unfold runsDst at e
  split at e <;> split at e <;> omega
 ·have hr : RansP (u.getD 0 undef) wE := hP 33 (by decide)
  clear hP
  have hbw : Below w.heap.size w wE := HB.out.trans (hb.mono (Nat.le_of_lt hsz))
  obtain ⟨u0, u1, u2, u3, u4, u5, u6, u7, u8, u9, u10, u11, u12, u13, u14, u15, u16, u17, u18, u19, u20, u21, u22, u23, u24, u25, u26, u27, u28, u29, u30, u31, u32, u33, u34, u35, u36, rfl⟩ := list37 hu
  refine HKK.out _ _ ?_
  clear HKK HZ HNT HB hsz hb hu
  have HR : Hid (RansP u0 wE) := hr
  have HBW : Hid (Below w.heap.size w wE) := hbw
  clear hr hbw
  go_wp2_with fail
  go_ret
  exact ⟨_, rfl, HR.out, HBW.out⟩
 clear HKK
 refine ⟨?s0, ?s1, ?s2, ?s3, ?s4, ?s5, ?s6, ?s7, ?s8, ?s9, ?s10, ?s11, ?s12, ?s13, ?s14, ?s15, ?s16, ?s17, ?s18, ?s19, ?s20, ?s21, ?s22, ?s23, ?s24, ?s25, ?s26, ?s27, ?s28, ?s29, ?s30, ?s31, ?s32, ?s33, trivial⟩
 case s0 =>
  intro u w1 hu hb hk hd K hK
  obtain ⟨u0, u1, u2, u3, u4, u5, u6, u7, u8, u9, u10, u11, u12, u13, u14, u15, u16, u17, u18, u19, u20, u21, u22, u23, u24, u25, u26, u27, u28, u29, u30, u31, u32, u33, u34, u35, u36, rfl⟩ := list37 hu
  clear hu
  clear hd hk hb
  clear HZ
  go_simp
  exact hK.out _ _ ((Below.refl _ _).alloc (Nat.le_refl _) _) (fld_laid [250, 4] w1 _ _ rfl)
 case s1 =>
  intro u w1 hu hb hk hd K hK
  obtain ⟨u0, u1, u2, u3, u4, u5, u6, u7, u8, u9, u10, u11, u12, u13, u14, u15, u16, u17, u18, u19, u20, u21, u22, u23, u24, u25, u26, u27, u28, u29, u30, u31, u32, u33, u34, u35, u36, rfl⟩ := list37 hu
  clear hu
  clear hd hk hb
  clear HZ
  go_simp
  refine (HNT.out 0 10 (1000) w1).mono ?_
  rintro e w2 ⟨rfl, hb2⟩
  exact hK.out _ _ hb2 rfl
 case s2 =>
  intro u w1 hu hb hk hd K hK
  obtain ⟨u0, u1, u2, u3, u4, u5, u6, u7, u8, u9, u10, u11, u12, u13, u14, u15, u16, u17, u18, u19, u20, u21, u22, u23, u24, u25, u26, u27, u28, u29, u30, u31, u32, u33, u34, u35, u36, rfl⟩ := list37 hu
  clear hu
  have f1 : u5 = .agg #[.int .i64 0, .int .i64 10, .int .i64 0, .int .i64 1000, .int .i64 0] := hd ⟨1, .data⟩ (by simp) rfl
  clear hd hk hb
  subst f1
  clear HZ
  go_simp
  exact hK.out _ _ ((Below.refl _ _).alloc (Nat.le_refl _) _) (nts_laid (ranAt 0).notes w1 _ _ rfl)
 case s3 =>
  intro u w1 hu hb hk hd K hK
  obtain ⟨u0, u1, u2, u3, u4, u5, u6, u7, u8, u9, u10, u11, u12, u13, u14, u15, u16, u17, u18, u19, u20, u21, u22, u23, u24, u25, u26, u27, u28, u29, u30, u31, u32, u33, u34, u35, u36, rfl⟩ := list37 hu
  clear hu
  have f0 : FldP (ranAt 0).fields u4 w1 := hd ⟨0, .data⟩ (by simp) rfl
  have f2 : NtsP (ranAt 0).notes u6 w1 := hd ⟨2, .data⟩ (by simp) rfl
  clear hd hk hb
  obtain ⟨o, p, rfl, f0⟩ := f0
  have F0 : Hid (NumCells w1 o p 0 (ranAt 0).fields) := f0
  clear f0
  obtain ⟨q, rfl, f2⟩ := f2
  have F2 : Hid (NoteCells w1 (some ⟨q, 0, none⟩) q (ranAt 0).notes) := f2
  clear f2
  clear HZ
  go_simp
  exact hK.out _ _ (Below.refl _ _) ⟨_, _, rfl, ⟨_, _, rfl, F0.out⟩, ⟨_, rfl, F2.out⟩⟩
 case s4 =>
  intro u w1 hu hb hk hd K hK
  obtain ⟨u0, u1, u2, u3, u4, u5, u6, u7, u8, u9, u10, u11, u12, u13, u14, u15, u16, u17, u18, u19, u20, u21, u22, u23, u24, u25, u26, u27, u28, u29, u30, u31, u32, u33, u34, u35, u36, rfl⟩ := list37 hu
  clear hu
  clear hd hk hb
  clear HZ
  go_simp
  refine (HNT.out 0 13 (49) w1).mono ?_
  rintro e w2 ⟨rfl, hb2⟩
  exact hK.out _ _ hb2 rfl
 case s5 =>
  intro u w1 hu hb hk hd K hK
  obtain ⟨u0, u1, u2, u3, u4, u5, u6, u7, u8, u9, u10, u11, u12, u13, u14, u15, u16, u17, u18, u19, u20, u21, u22, u23, u24, u25, u26, u27, u28, u29, u30, u31, u32, u33, u34, u35, u36, rfl⟩ := list37 hu
  clear hu
  clear hd hk hb
  clear HZ
  go_simp
  refine (HNT.out 0 13 (2401) w1).mono ?_
  rintro e w2 ⟨rfl, hb2⟩
  exact hK.out _ _ hb2 rfl
 case s6 =>
  intro u w1 hu hb hk hd K hK
  obtain ⟨u0, u1, u2, u3, u4, u5, u6, u7, u8, u9, u10, u11, u12, u13, u14, u15, u16, u17, u18, u19, u20, u21, u22, u23, u24, u25, u26, u27, u28, u29, u30, u31, u32, u33, u34, u35, u36, rfl⟩ := list37 hu
  clear hu
  clear hd hk hb
  clear HZ
  go_simp
  refine (HNT.out 0 13 (5764801) w1).mono ?_
  rintro e w2 ⟨rfl, hb2⟩
  exact hK.out _ _ hb2 rfl
 case s7 =>
  intro u w1 hu hb hk hd K hK
  obtain ⟨u0, u1, u2, u3, u4, u5, u6, u7, u8, u9, u10, u11, u12, u13, u14, u15, u16, u17, u18, u19, u20, u21, u22, u23, u24, u25, u26, u27, u28, u29, u30, u31, u32, u33, u34, u35, u36, rfl⟩ := list37 hu
  clear hu
  have f4 : u8 = .agg #[.int .i64 0, .int .i64 13, .int .i64 0, .int .i64 49, .int .i64 0] := hd ⟨4, .data⟩ (by simp) rfl
  have f5 : u9 = .agg #[.int .i64 0, .int .i64 13, .int .i64 0, .int .i64 2401, .int .i64 0] := hd ⟨5, .data⟩ (by simp) rfl
  have f6 : u10 = .agg #[.int .i64 0, .int .i64 13, .int .i64 0, .int .i64 5764801, .int .i64 0] := hd ⟨6, .data⟩ (by simp) rfl
  clear hd hk hb
  subst f4 f5 f6
  clear HZ
  go_simp
  exact hK.out _ _ ((Below.refl _ _).alloc (Nat.le_refl _) _) (nts_laid (ranAt 1).notes w1 _ _ rfl)
 case s8 =>
  intro u w1 hu hb hk hd K hK
  obtain ⟨u0, u1, u2, u3, u4, u5, u6, u7, u8, u9, u10, u11, u12, u13, u14, u15, u16, u17, u18, u19, u20, u21, u22, u23, u24, u25, u26, u27, u28, u29, u30, u31, u32, u33, u34, u35, u36, rfl⟩ := list37 hu
  clear hu
  have f7 : NtsP (ranAt 1).notes u11 w1 := hd ⟨7, .data⟩ (by simp) rfl
  clear hd hk hb
  obtain ⟨q, rfl, f7⟩ := f7
  have F7 : Hid (NoteCells w1 (some ⟨q, 0, none⟩) q (ranAt 1).notes) := f7
  clear f7
  clear HZ
  go_simp
  exact hK.out _ _ (Below.refl _ _) ⟨_, _, rfl, ⟨none, 0, rfl, fun i hi => absurd hi (Nat.not_lt_zero _)⟩, ⟨_, rfl, F7.out⟩⟩
 case s9 =>
  intro u w1 hu hb hk hd K hK
  obtain ⟨u0, u1, u2, u3, u4, u5, u6, u7, u8, u9, u10, u11, u12, u13, u14, u15, u16, u17, u18, u19, u20, u21, u22, u23, u24, u25, u26, u27, u28, u29, u30, u31, u32, u33, u34, u35, u36, rfl⟩ := list37 hu
  clear hu
  obtain rfl : u1 = .pointer (some ⟨w.heap.size, 0, none⟩) := hk 1 (by decide)
  clear hd hk
  have z0 := HZ.out w1 hb 0
  have z1 := HZ.out w1 hb 1
  have z2 := HZ.out w1 hb 2
  have z3 := HZ.out w1 hb 3
  have z4 := HZ.out w1 hb 4
  clear hb
  simp only [List.getElem?_toArray, List.getElem?_cons_zero, List.getElem?_cons_succ] at z0 z1 z2 z3 z4
  clear HZ
  go_simp
  exact hK.out _ _ (Below.refl _ _) rfl
 case s10 =>
  intro u w1 hu hb hk hd K hK
  obtain ⟨u0, u1, u2, u3, u4, u5, u6, u7, u8, u9, u10, u11, u12, u13, u14, u15, u16, u17, u18, u19, u20, u21, u22, u23, u24, u25, u26, u27, u28, u29, u30, u31, u32, u33, u34, u35, u36, rfl⟩ := list37 hu
  clear hu
  clear hd hk hb
  clear HZ
  go_simp
  refine (HNT.out 0 9 (1) w1).mono ?_
  rintro e w2 ⟨rfl, hb2⟩
  exact hK.out _ _ hb2 rfl
 case s11 =>
  intro u w1 hu hb hk hd K hK
  obtain ⟨u0, u1, u2, u3, u4, u5, u6, u7, u8, u9, u10, u11, u12, u13, u14, u15, u16, u17, u18, u19, u20, u21, u22, u23, u24, u25, u26, u27, u28, u29, u30, u31, u32, u33, u34, u35, u36, rfl⟩ := list37 hu
  clear hu
  obtain rfl : u1 = .pointer (some ⟨w.heap.size, 0, none⟩) := hk 1 (by decide)
  clear hd hk
  have z0 := HZ.out w1 hb 0
  have z1 := HZ.out w1 hb 1
  have z2 := HZ.out w1 hb 2
  have z3 := HZ.out w1 hb 3
  have z4 := HZ.out w1 hb 4
  clear hb
  simp only [List.getElem?_toArray, List.getElem?_cons_zero, List.getElem?_cons_succ] at z0 z1 z2 z3 z4
  clear HZ
  go_simp
  exact hK.out _ _ (Below.refl _ _) rfl
 case s12 =>
  intro u w1 hu hb hk hd K hK
  obtain ⟨u0, u1, u2, u3, u4, u5, u6, u7, u8, u9, u10, u11, u12, u13, u14, u15, u16, u17, u18, u19, u20, u21, u22, u23, u24, u25, u26, u27, u28, u29, u30, u31, u32, u33, u34, u35, u36, rfl⟩ := list37 hu
  clear hu
  clear hd hk hb
  clear HZ
  go_simp
  refine (HNT.out 0 9 (1) w1).mono ?_
  rintro e w2 ⟨rfl, hb2⟩
  exact hK.out _ _ hb2 rfl
 case s13 =>
  intro u w1 hu hb hk hd K hK
  obtain ⟨u0, u1, u2, u3, u4, u5, u6, u7, u8, u9, u10, u11, u12, u13, u14, u15, u16, u17, u18, u19, u20, u21, u22, u23, u24, u25, u26, u27, u28, u29, u30, u31, u32, u33, u34, u35, u36, rfl⟩ := list37 hu
  clear hu
  have f9 : u13 = .agg #[.int .i64 0, .int .i64 3, .int .i64 0, .int .i64 0, .int .i64 2] := hd ⟨9, .data⟩ (by simp) rfl
  have f10 : u14 = .agg #[.int .i64 0, .int .i64 9, .int .i64 0, .int .i64 1, .int .i64 0] := hd ⟨10, .data⟩ (by simp) rfl
  have f11 : u15 = .agg #[.int .i64 0, .int .i64 3, .int .i64 0, .int .i64 0, .int .i64 2] := hd ⟨11, .data⟩ (by simp) rfl
  have f12 : u16 = .agg #[.int .i64 0, .int .i64 9, .int .i64 0, .int .i64 1, .int .i64 0] := hd ⟨12, .data⟩ (by simp) rfl
  clear hd hk hb
  subst f9 f10 f11 f12
  clear HZ
  go_simp
  exact hK.out _ _ ((Below.refl _ _).alloc (Nat.le_refl _) _) (nts_laid (ranAt 2).notes w1 _ _ rfl)
 case s14 =>
  intro u w1 hu hb hk hd K hK
  obtain ⟨u0, u1, u2, u3, u4, u5, u6, u7, u8, u9, u10, u11, u12, u13, u14, u15, u16, u17, u18, u19, u20, u21, u22, u23, u24, u25, u26, u27, u28, u29, u30, u31, u32, u33, u34, u35, u36, rfl⟩ := list37 hu
  clear hu
  have f13 : NtsP (ranAt 2).notes u17 w1 := hd ⟨13, .data⟩ (by simp) rfl
  clear hd hk hb
  obtain ⟨q, rfl, f13⟩ := f13
  have F13 : Hid (NoteCells w1 (some ⟨q, 0, none⟩) q (ranAt 2).notes) := f13
  clear f13
  clear HZ
  go_simp
  exact hK.out _ _ (Below.refl _ _) ⟨_, _, rfl, ⟨none, 0, rfl, fun i hi => absurd hi (Nat.not_lt_zero _)⟩, ⟨_, rfl, F13.out⟩⟩
 case s15 =>
  intro u w1 hu hb hk hd K hK
  obtain ⟨u0, u1, u2, u3, u4, u5, u6, u7, u8, u9, u10, u11, u12, u13, u14, u15, u16, u17, u18, u19, u20, u21, u22, u23, u24, u25, u26, u27, u28, u29, u30, u31, u32, u33, u34, u35, u36, rfl⟩ := list37 hu
  clear hu
  clear hd hk hb
  clear HZ
  go_simp
  refine (HNT.out 0 17 (3) w1).mono ?_
  rintro e w2 ⟨rfl, hb2⟩
  exact hK.out _ _ hb2 rfl
 case s16 =>
  intro u w1 hu hb hk hd K hK
  obtain ⟨u0, u1, u2, u3, u4, u5, u6, u7, u8, u9, u10, u11, u12, u13, u14, u15, u16, u17, u18, u19, u20, u21, u22, u23, u24, u25, u26, u27, u28, u29, u30, u31, u32, u33, u34, u35, u36, rfl⟩ := list37 hu
  clear hu
  have f15 : u19 = .agg #[.int .i64 0, .int .i64 17, .int .i64 0, .int .i64 3, .int .i64 0] := hd ⟨15, .data⟩ (by simp) rfl
  clear hd hk hb
  subst f15
  clear HZ
  go_simp
  exact hK.out _ _ ((Below.refl _ _).alloc (Nat.le_refl _) _) (nts_laid (ranAt 3).notes w1 _ _ rfl)
 case s17 =>
  intro u w1 hu hb hk hd K hK
  obtain ⟨u0, u1, u2, u3, u4, u5, u6, u7, u8, u9, u10, u11, u12, u13, u14, u15, u16, u17, u18, u19, u20, u21, u22, u23, u24, u25, u26, u27, u28, u29, u30, u31, u32, u33, u34, u35, u36, rfl⟩ := list37 hu
  clear hu
  have f16 : NtsP (ranAt 3).notes u20 w1 := hd ⟨16, .data⟩ (by simp) rfl
  clear hd hk hb
  obtain ⟨q, rfl, f16⟩ := f16
  have F16 : Hid (NoteCells w1 (some ⟨q, 0, none⟩) q (ranAt 3).notes) := f16
  clear f16
  clear HZ
  go_simp
  exact hK.out _ _ (Below.refl _ _) ⟨_, _, rfl, ⟨none, 0, rfl, fun i hi => absurd hi (Nat.not_lt_zero _)⟩, ⟨_, rfl, F16.out⟩⟩
 case s18 =>
  intro u w1 hu hb hk hd K hK
  obtain ⟨u0, u1, u2, u3, u4, u5, u6, u7, u8, u9, u10, u11, u12, u13, u14, u15, u16, u17, u18, u19, u20, u21, u22, u23, u24, u25, u26, u27, u28, u29, u30, u31, u32, u33, u34, u35, u36, rfl⟩ := list37 hu
  clear hu
  clear hd hk hb
  clear HZ
  go_simp
  exact hK.out _ _ ((Below.refl _ _).alloc (Nat.le_refl _) _) (fld_laid [123] w1 _ _ rfl)
 case s19 =>
  intro u w1 hu hb hk hd K hK
  obtain ⟨u0, u1, u2, u3, u4, u5, u6, u7, u8, u9, u10, u11, u12, u13, u14, u15, u16, u17, u18, u19, u20, u21, u22, u23, u24, u25, u26, u27, u28, u29, u30, u31, u32, u33, u34, u35, u36, rfl⟩ := list37 hu
  clear hu
  clear hd hk hb
  clear HZ
  go_simp
  refine (HNT.out 1 5 (12) w1).mono ?_
  rintro e w2 ⟨rfl, hb2⟩
  exact hK.out _ _ hb2 rfl
 case s20 =>
  intro u w1 hu hb hk hd K hK
  obtain ⟨u0, u1, u2, u3, u4, u5, u6, u7, u8, u9, u10, u11, u12, u13, u14, u15, u16, u17, u18, u19, u20, u21, u22, u23, u24, u25, u26, u27, u28, u29, u30, u31, u32, u33, u34, u35, u36, rfl⟩ := list37 hu
  clear hu
  clear hd hk hb
  clear HZ
  go_simp
  refine (HNT.out 0 15 (12) w1).mono ?_
  rintro e w2 ⟨rfl, hb2⟩
  exact hK.out _ _ hb2 rfl
 case s21 =>
  intro u w1 hu hb hk hd K hK
  obtain ⟨u0, u1, u2, u3, u4, u5, u6, u7, u8, u9, u10, u11, u12, u13, u14, u15, u16, u17, u18, u19, u20, u21, u22, u23, u24, u25, u26, u27, u28, u29, u30, u31, u32, u33, u34, u35, u36, rfl⟩ := list37 hu
  clear hu
  have f19 : u23 = .agg #[.int .i64 1, .int .i64 5, .int .i64 0, .int .i64 12, .int .i64 0] := hd ⟨19, .data⟩ (by simp) rfl
  have f20 : u24 = .agg #[.int .i64 0, .int .i64 15, .int .i64 0, .int .i64 12, .int .i64 0] := hd ⟨20, .data⟩ (by simp) rfl
  clear hd hk hb
  subst f19 f20
  clear HZ
  go_simp
  exact hK.out _ _ ((Below.refl _ _).alloc (Nat.le_refl _) _) (nts_laid (ranAt 4).notes w1 _ _ rfl)
 case s22 =>
  intro u w1 hu hb hk hd K hK
  obtain ⟨u0, u1, u2, u3, u4, u5, u6, u7, u8, u9, u10, u11, u12, u13, u14, u15, u16, u17, u18, u19, u20, u21, u22, u23, u24, u25, u26, u27, u28, u29, u30, u31, u32, u33, u34, u35, u36, rfl⟩ := list37 hu
  clear hu
  have f18 : FldP (ranAt 4).fields u22 w1 := hd ⟨18, .data⟩ (by simp) rfl
  have f21 : NtsP (ranAt 4).notes u25 w1 := hd ⟨21, .data⟩ (by simp) rfl
  clear hd hk hb
  obtain ⟨o, p, rfl, f18⟩ := f18
  have F18 : Hid (NumCells w1 o p 0 (ranAt 4).fields) := f18
  clear f18
  obtain ⟨q, rfl, f21⟩ := f21
  have F21 : Hid (NoteCells w1 (some ⟨q, 0, none⟩) q (ranAt 4).notes) := f21
  clear f21
  clear HZ
  go_simp
  exact hK.out _ _ (Below.refl _ _) ⟨_, _, rfl, ⟨_, _, rfl, F18.out⟩, ⟨_, rfl, F21.out⟩⟩
 case s23 =>
  intro u w1 hu hb hk hd K hK
  obtain ⟨u0, u1, u2, u3, u4, u5, u6, u7, u8, u9, u10, u11, u12, u13, u14, u15, u16, u17, u18, u19, u20, u21, u22, u23, u24, u25, u26, u27, u28, u29, u30, u31, u32, u33, u34, u35, u36, rfl⟩ := list37 hu
  clear hu
  clear hd hk hb
  clear HZ
  go_simp
  refine (HNT.out 0 10 (2) w1).mono ?_
  rintro e w2 ⟨rfl, hb2⟩
  exact hK.out _ _ hb2 rfl
 case s24 =>
  intro u w1 hu hb hk hd K hK
  obtain ⟨u0, u1, u2, u3, u4, u5, u6, u7, u8, u9, u10, u11, u12, u13, u14, u15, u16, u17, u18, u19, u20, u21, u22, u23, u24, u25, u26, u27, u28, u29, u30, u31, u32, u33, u34, u35, u36, rfl⟩ := list37 hu
  clear hu
  have f23 : u27 = .agg #[.int .i64 0, .int .i64 10, .int .i64 0, .int .i64 2, .int .i64 0] := hd ⟨23, .data⟩ (by simp) rfl
  clear hd hk hb
  subst f23
  clear HZ
  go_simp
  exact hK.out _ _ ((Below.refl _ _).alloc (Nat.le_refl _) _) (nts_laid (ranAt 5).notes w1 _ _ rfl)
 case s25 =>
  intro u w1 hu hb hk hd K hK
  obtain ⟨u0, u1, u2, u3, u4, u5, u6, u7, u8, u9, u10, u11, u12, u13, u14, u15, u16, u17, u18, u19, u20, u21, u22, u23, u24, u25, u26, u27, u28, u29, u30, u31, u32, u33, u34, u35, u36, rfl⟩ := list37 hu
  clear hu
  have f24 : NtsP (ranAt 5).notes u28 w1 := hd ⟨24, .data⟩ (by simp) rfl
  clear hd hk hb
  obtain ⟨q, rfl, f24⟩ := f24
  have F24 : Hid (NoteCells w1 (some ⟨q, 0, none⟩) q (ranAt 5).notes) := f24
  clear f24
  clear HZ
  go_simp
  exact hK.out _ _ (Below.refl _ _) ⟨_, _, rfl, ⟨none, 0, rfl, fun i hi => absurd hi (Nat.not_lt_zero _)⟩, ⟨_, rfl, F24.out⟩⟩
 case s26 =>
  intro u w1 hu hb hk hd K hK
  obtain ⟨u0, u1, u2, u3, u4, u5, u6, u7, u8, u9, u10, u11, u12, u13, u14, u15, u16, u17, u18, u19, u20, u21, u22, u23, u24, u25, u26, u27, u28, u29, u30, u31, u32, u33, u34, u35, u36, rfl⟩ := list37 hu
  clear hu
  clear hd hk hb
  clear HZ
  go_simp
  refine (HNT.out 0 0 (-5) w1).mono ?_
  rintro e w2 ⟨rfl, hb2⟩
  exact hK.out _ _ hb2 rfl
 case s27 =>
  intro u w1 hu hb hk hd K hK
  obtain ⟨u0, u1, u2, u3, u4, u5, u6, u7, u8, u9, u10, u11, u12, u13, u14, u15, u16, u17, u18, u19, u20, u21, u22, u23, u24, u25, u26, u27, u28, u29, u30, u31, u32, u33, u34, u35, u36, rfl⟩ := list37 hu
  clear hu
  clear hd hk hb
  clear HZ
  go_simp
  refine (HNT.out 0 8 (14) w1).mono ?_
  rintro e w2 ⟨rfl, hb2⟩
  exact hK.out _ _ hb2 rfl
 case s28 =>
  intro u w1 hu hb hk hd K hK
  obtain ⟨u0, u1, u2, u3, u4, u5, u6, u7, u8, u9, u10, u11, u12, u13, u14, u15, u16, u17, u18, u19, u20, u21, u22, u23, u24, u25, u26, u27, u28, u29, u30, u31, u32, u33, u34, u35, u36, rfl⟩ := list37 hu
  clear hu
  clear hd hk hb
  clear HZ
  go_simp
  refine (HNT.out 0 16 (7) w1).mono ?_
  rintro e w2 ⟨rfl, hb2⟩
  exact hK.out _ _ hb2 rfl
 case s29 =>
  intro u w1 hu hb hk hd K hK
  obtain ⟨u0, u1, u2, u3, u4, u5, u6, u7, u8, u9, u10, u11, u12, u13, u14, u15, u16, u17, u18, u19, u20, u21, u22, u23, u24, u25, u26, u27, u28, u29, u30, u31, u32, u33, u34, u35, u36, rfl⟩ := list37 hu
  clear hu
  clear hd hk hb
  clear HZ
  go_simp
  refine (HNT.out 0 26 (4) w1).mono ?_
  rintro e w2 ⟨rfl, hb2⟩
  exact hK.out _ _ hb2 rfl
 case s30 =>
  intro u w1 hu hb hk hd K hK
  obtain ⟨u0, u1, u2, u3, u4, u5, u6, u7, u8, u9, u10, u11, u12, u13, u14, u15, u16, u17, u18, u19, u20, u21, u22, u23, u24, u25, u26, u27, u28, u29, u30, u31, u32, u33, u34, u35, u36, rfl⟩ := list37 hu
  clear hu
  have f26 : u30 = .agg #[.int .i64 0, .int .i64 0, .int .i64 0, .int .i64 (-5), .int .i64 0] := hd ⟨26, .data⟩ (by simp) rfl
  have f27 : u31 = .agg #[.int .i64 0, .int .i64 8, .int .i64 0, .int .i64 14, .int .i64 0] := hd ⟨27, .data⟩ (by simp) rfl
  have f28 : u32 = .agg #[.int .i64 0, .int .i64 16, .int .i64 0, .int .i64 7, .int .i64 0] := hd ⟨28, .data⟩ (by simp) rfl
  have f29 : u33 = .agg #[.int .i64 0, .int .i64 26, .int .i64 0, .int .i64 4, .int .i64 0] := hd ⟨29, .data⟩ (by simp) rfl
  clear hd hk hb
  subst f26 f27 f28 f29
  clear HZ
  go_simp
  exact hK.out _ _ ((Below.refl _ _).alloc (Nat.le_refl _) _) (nts_laid (ranAt 6).notes w1 _ _ rfl)
 case s31 =>
  intro u w1 hu hb hk hd K hK
  obtain ⟨u0, u1, u2, u3, u4, u5, u6, u7, u8, u9, u10, u11, u12, u13, u14, u15, u16, u17, u18, u19, u20, u21, u22, u23, u24, u25, u26, u27, u28, u29, u30, u31, u32, u33, u34, u35, u36, rfl⟩ := list37 hu
  clear hu
  have f30 : NtsP (ranAt 6).notes u34 w1 := hd ⟨30, .data⟩ (by simp) rfl
  clear hd hk hb
  obtain ⟨q, rfl, f30⟩ := f30
  have F30 : Hid (NoteCells w1 (some ⟨q, 0, none⟩) q (ranAt 6).notes) := f30
  clear f30
  clear HZ
  go_simp
  exact hK.out _ _ (Below.refl _ _) ⟨_, _, rfl, ⟨none, 0, rfl, fun i hi => absurd hi (Nat.not_lt_zero _)⟩, ⟨_, rfl, F30.out⟩⟩
 case s32 =>
  intro u w1 hu hb hk hd K hK
  obtain ⟨u0, u1, u2, u3, u4, u5, u6, u7, u8, u9, u10, u11, u12, u13, u14, u15, u16, u17, u18, u19, u20, u21, u22, u23, u24, u25, u26, u27, u28, u29, u30, u31, u32, u33, u34, u35, u36, rfl⟩ := list37 hu
  clear hu
  have f3 : RanP (ranAt 0) u7 w1 := hd ⟨3, .data⟩ (by simp) rfl
  have f8 : RanP (ranAt 1) u12 w1 := hd ⟨8, .data⟩ (by simp) rfl
  have f14 : RanP (ranAt 2) u18 w1 := hd ⟨14, .data⟩ (by simp) rfl
  have f17 : RanP (ranAt 3) u21 w1 := hd ⟨17, .data⟩ (by simp) rfl
  have f22 : RanP (ranAt 4) u26 w1 := hd ⟨22, .data⟩ (by simp) rfl
  have f25 : RanP (ranAt 5) u29 w1 := hd ⟨25, .data⟩ (by simp) rfl
  have f31 : RanP (ranAt 6) u35 w1 := hd ⟨31, .data⟩ (by simp) rfl
  clear hd hk hb
  obtain ⟨_, _, rfl, ⟨o3, p3, rfl, ff3⟩, ⟨q3, rfl, fn3⟩⟩ := f3
  obtain ⟨_, _, rfl, ⟨o8, p8, rfl, ff8⟩, ⟨q8, rfl, fn8⟩⟩ := f8
  obtain ⟨_, _, rfl, ⟨o14, p14, rfl, ff14⟩, ⟨q14, rfl, fn14⟩⟩ := f14
  obtain ⟨_, _, rfl, ⟨o17, p17, rfl, ff17⟩, ⟨q17, rfl, fn17⟩⟩ := f17
  obtain ⟨_, _, rfl, ⟨o22, p22, rfl, ff22⟩, ⟨q22, rfl, fn22⟩⟩ := f22
  obtain ⟨_, _, rfl, ⟨o25, p25, rfl, ff25⟩, ⟨q25, rfl, fn25⟩⟩ := f25
  obtain ⟨_, _, rfl, ⟨o31, p31, rfl, ff31⟩, ⟨q31, rfl, fn31⟩⟩ := f31
  clear HZ
  go_simp
  refine hK.out _ _ ((Below.refl _ _).alloc (Nat.le_refl _) _) (rans_laid w1 [.slice o3 2 2, .slice o8 0 0, .slice o14 0 0, .slice o17 0 0, .slice o22 1 1, .slice o25 0 0, .slice o31 0 0] [.slice (some ⟨q3, 0, none⟩) 1 1, .slice (some ⟨q8, 0, none⟩) 3 3, .slice (some ⟨q14, 0, none⟩) 4 4, .slice (some ⟨q17, 0, none⟩) 1 1, .slice (some ⟨q22, 0, none⟩) 2 2, .slice (some ⟨q25, 0, none⟩) 1 1, .slice (some ⟨q31, 0, none⟩) 4 4] (fun k hk => ?_) (fun k hk => ?_) _ _ rfl)
  ·match k, hk with
   | 0, _ => exact ⟨_, _, rfl, ff3⟩
   | 1, _ => exact ⟨_, _, rfl, ff8⟩
   | 2, _ => exact ⟨_, _, rfl, ff14⟩
   | 3, _ => exact ⟨_, _, rfl, ff17⟩
   | 4, _ => exact ⟨_, _, rfl, ff22⟩
   | 5, _ => exact ⟨_, _, rfl, ff25⟩
   | 6, _ => exact ⟨_, _, rfl, ff31⟩
  ·match k, hk with
   | 0, _ => exact ⟨_, rfl, fn3⟩
   | 1, _ => exact ⟨_, rfl, fn8⟩
   | 2, _ => exact ⟨_, rfl, fn14⟩
   | 3, _ => exact ⟨_, rfl, fn17⟩
   | 4, _ => exact ⟨_, rfl, fn22⟩
   | 5, _ => exact ⟨_, rfl, fn25⟩
   | 6, _ => exact ⟨_, rfl, fn31⟩
 case s33 =>
  intro u w1 hu hb hk hd K hK
  obtain ⟨u0, u1, u2, u3, u4, u5, u6, u7, u8, u9, u10, u11, u12, u13, u14, u15, u16, u17, u18, u19, u20, u21, u22, u23, u24, u25, u26, u27, u28, u29, u30, u31, u32, u33, u34, u35, u36, rfl⟩ := list37 hu
  clear hu
  have f : RansP u36 w1 := hd ⟨32, .data⟩ (by simp) rfl
  clear hd hk hb
  clear HZ
  go_simp
  exact hK.out _ _ (Below.refl _ _) f
end Go.Proofs.YtdgmoiflahoihaaGreatDoor
