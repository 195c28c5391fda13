import Derived.Test.YtdgmoiflahoihabCPx
import Derived.Test.YtdgmoiflahoihabKPickx
import Derived.Laws.MakeOwn

namespace Go.Proofs.Ytdgmoiflahoihab
open Go.RowKit
set_option linter.unusedSimpArgs false
set_option linter.unusedVariables false
def cpV (i : Nat) : Value := .string ⟨(cpPiece i).toArray⟩
set_option maxRecDepth 100000 in
set_option maxHeartbeats 1000000 in
theorem piece_any (c : Int) (hc : -9223372036854775808 ≤ c ∧ c ≤ 9223372036854775807) (w : World) :
  Calls Try.prog 5 #[.int .i64 c] w fun e w' => e = .returned (cpV (pickN c 9)) ∧ Below w.heap.size w w' := by
 have hlt := pickN_lt c (n := 9) (by decide)
 have HP : Hid (∀ w, Calls Try.prog 6 #[.int .i64 c, .int .i64 9] w fun e w' => e = .returned (.int .i64 (pickN c 9 : Nat)) ∧ w' = w) := fun w => pick_any c 9 hc (by decide) (by decide) w
 generalize hk : pickN c 9 = k at *
 have hcell : (w.alloc (.cells #[.string ⟨#[120, 61, 120, 43, 49, 59]⟩, .string ⟨#[62, 45, 120, 59]⟩, .string ⟨#[120, 61, 97, 45, 120, 59, 62, 66, 32, 120, 42, 98, 59]⟩, .string ⟨#[40, 97, 60, 120, 41, 123, 120, 61, 120, 45, 97, 59, 62, 45, 120, 59, 125, 123, 120, 61, 120, 42, 50, 43, 49, 59, 125]⟩, .string ⟨#[94, 121, 58, 66, 61, 98, 43, 121, 59, 62, 66, 32, 121, 59]⟩, .string ⟨#[42, 50, 123, 120, 61, 120, 43, 97, 59, 125, 62, 45, 120, 59]⟩, .string ⟨#[98, 61, 98, 47, 120, 59, 62, 66, 32, 98, 59]⟩, .string ⟨#[120, 61, 48, 45, 120, 59, 40, 120, 41, 123, 62, 45, 120, 47, 48, 59, 125]⟩, .string ⟨#[62, 45, 97, 37, 120, 59, 120, 61, 120, 42, 120, 59]⟩] 43)).cell? ⟨w.heap.size, k, none⟩ = some (cpV k) := by
  rw [cell_of_row _ _ _ _ _ _ (heap_alloc_new w _)]
  match k, hlt with
  | 0, _ => rfl
  | 1, _ => rfl
  | 2, _ => rfl
  | 3, _ => rfl
  | 4, _ => rfl
  | 5, _ => rfl
  | 6, _ => rfl
  | 7, _ => rfl
  | 8, _ => rfl
 clear hk
 go_enter Try.func5, Try.ntmps5
 go_wp2_with fail
 refine (HP.out _).mono ?_
 rintro e w1 ⟨rfl, hw1⟩
 rw [hw1]
 clear hw1
 have hB : Below w.heap.size w (w.alloc (.cells #[.string ⟨#[120, 61, 120, 43, 49, 59]⟩, .string ⟨#[62, 45, 120, 59]⟩, .string ⟨#[120, 61, 97, 45, 120, 59, 62, 66, 32, 120, 42, 98, 59]⟩, .string ⟨#[40, 97, 60, 120, 41, 123, 120, 61, 120, 45, 97, 59, 62, 45, 120, 59, 125, 123, 120, 61, 120, 42, 50, 43, 49, 59, 125]⟩, .string ⟨#[94, 121, 58, 66, 61, 98, 43, 121, 59, 62, 66, 32, 121, 59]⟩, .string ⟨#[42, 50, 123, 120, 61, 120, 43, 97, 59, 125, 62, 45, 120, 59]⟩, .string ⟨#[98, 61, 98, 47, 120, 59, 62, 66, 32, 98, 59]⟩, .string ⟨#[120, 61, 48, 45, 120, 59, 40, 120, 41, 123, 62, 45, 120, 47, 48, 59, 125]⟩, .string ⟨#[62, 45, 97, 37, 120, 59, 120, 61, 120, 42, 120, 59]⟩] 43)) := (Below.refl _ _).alloc (Nat.le_refl _) _
 generalize (w.alloc (.cells #[.string ⟨#[120, 61, 120, 43, 49, 59]⟩, .string ⟨#[62, 45, 120, 59]⟩, .string ⟨#[120, 61, 97, 45, 120, 59, 62, 66, 32, 120, 42, 98, 59]⟩, .string ⟨#[40, 97, 60, 120, 41, 123, 120, 61, 120, 45, 97, 59, 62, 45, 120, 59, 125, 123, 120, 61, 120, 42, 50, 43, 49, 59, 125]⟩, .string ⟨#[94, 121, 58, 66, 61, 98, 43, 121, 59, 62, 66, 32, 121, 59]⟩, .string ⟨#[42, 50, 123, 120, 61, 120, 43, 97, 59, 125, 62, 45, 120, 59]⟩, .string ⟨#[98, 61, 98, 47, 120, 59, 62, 66, 32, 98, 59]⟩, .string ⟨#[120, 61, 48, 45, 120, 59, 40, 120, 41, 123, 62, 45, 120, 47, 48, 59, 125]⟩, .string ⟨#[62, 45, 97, 37, 120, 59, 120, 61, 120, 42, 120, 59]⟩] 43)) = W at *
 go_wp2_with fail
 go_ret
 exact ⟨rfl, hB⟩
theorem infoI : (Try.prog.info? 3).map (fun i => (i.zero, i.size, i.bytes)) = some (some (.int .i64 0), 1, 8) := by kernel_rfl
theorem make_two (w : World) : (Instr.makeSlice 22 (.int .i64 2) (.int .i64 2)).run Try.prog w = .ok (.slice (some ⟨w.heap.size, 0, none⟩) 2 2) (w.alloc (.cells #[.int .i64 0, .int .i64 0] 3)) := by
 obtain ⟨i, hi, hz, hs, hb⟩ := parts_of_info infoI
 have k := run_makeSlice (P := Try.prog) w 22 3 i (.int .i64 0) Try.underlying22 hi hz .i64 .i64 2 2 (by decide) (by decide) (by rw [hs]; decide) (by rw [hb]; decide) (by decide)
 rw [hs] at k
 have e : madeCells (Value.int .i64 0).cells (Int.toNat 2 * 1) = #[.int .i64 0, .int .i64 0] := by kernel_rfl
 rw [e] at k
 exact k
structure ArgInts (w : World) (v : Value) (zs : List Int) : Prop where
 here : ∃ ao cap, v = .slice ao zs.length cap ∧ ∀ i, ∀ hi : i < zs.length, ∃ b off, ao = some ⟨b, off, none⟩ ∧ b < w.heap.size ∧ w.cell? ⟨b, off + i, none⟩ = some (.int .i64 zs[i])
set_option maxRecDepth 100000 in
set_option maxHeartbeats 1000000 in
theorem filled_any (v : Value) (zs : List Int) (w : World) (hv : ArgInts w v zs) (hz : zs.length ≤ maxLen) :
  Calls Try.prog 7 #[v, .int .i64 2] w fun e w' => e = .returned (.slice (some ⟨w.heap.size, 0, none⟩) 2 2) ∧ w' = w.alloc (.cells #[.int .i64 (zs.getD 0 0), .int .i64 (zs.getD 1 0)] 3) := by
 obtain ⟨ao, cap, rfl, hc⟩ := hv.here
 unfold maxLen at hz
 have hmk := make_two w
 clear hv
 match zs, hc, hz with
 | [], hc, hz =>
  clear hc
  go_enter Try.func7, Try.ntmps7
  go_wp2_with fail
  go_loopw [6] (fun x w' => x = .int .i64 0 ∧ w' = w.alloc (.cells #[.int .i64 0, .int .i64 0] 3)) (fun _ _ => 0)
  case atStart => exact ⟨rfl, rfl⟩
  case round =>
   obtain ⟨rfl, rfl⟩ := hrel
   go_wp2_with fail
   go_ret
   exact ⟨rfl, rfl⟩
 | [a], hc, hz =>
  obtain ⟨b, off, rfl, hb, hca⟩ := hc 0 (by simp)
  simp only [Nat.add_zero, List.getElem_cons_zero] at hca
  have hne : ¬ b = w.heap.size := by omega
  clear hc
  go_enter Try.func7, Try.ntmps7
  go_wp2_with fail
  go_loopw [6] (fun x w' => (x = .int .i64 0 ∧ w' = w.alloc (.cells #[.int .i64 0, .int .i64 0] 3)) ∨ (x = .int .i64 1 ∧ w' = w.alloc (.cells #[.int .i64 a, .int .i64 0] 3))) (fun x _ => 1 - (intOf x).toNat)
  case atStart => exact .inl ⟨rfl, rfl⟩
  case round =>
   rcases hrel with ⟨rfl, rfl⟩ | ⟨rfl, rfl⟩
   ·go_wp2_with fail
    go_roundw
    case rel => simp
    case measure => simp [intOf]
   ·go_wp2_with fail
    go_ret
    exact ⟨rfl, rfl⟩
 | a :: d :: r, hc, hz =>
  obtain ⟨b, off, rfl, hb, hca⟩ := hc 0 (by simp)
  obtain ⟨b2, off2, hbe, hb2, hcd⟩ := hc 1 (by simp)
  simp only [Option.some.injEq, Addr.mk.injEq, and_true] at hbe
  obtain ⟨rfl, rfl⟩ := hbe
  simp only [Nat.add_zero, List.getElem_cons_zero, List.getElem_cons_succ] at hca hcd
  have hne : ¬ b = w.heap.size := by omega
  simp only [List.length_cons] at hz ⊢
  have hL : ∃ L, L = r.length + 1 + 1 := ⟨_, rfl⟩
  obtain ⟨L, hL⟩ := hL
  rw [← hL]
  have t0 : decide ((0 : Int) < (L : Int)) = true := by simp; omega
  have t1 : decide ((1 : Int) < (L : Int)) = true := by simp; omega
  have hl2 : 2 ≤ L := by omega
  clear hc hL
  go_enter Try.func7, Try.ntmps7
  go_wp2_with fail
  go_loopw [6] (fun x w' => (x = .int .i64 0 ∧ w' = w.alloc (.cells #[.int .i64 0, .int .i64 0] 3)) ∨ (x = .int .i64 1 ∧ w' = w.alloc (.cells #[.int .i64 a, .int .i64 0] 3)) ∨ (x = .int .i64 2 ∧ w' = w.alloc (.cells #[.int .i64 a, .int .i64 d] 3))) (fun x _ => 2 - (intOf x).toNat)
  case atStart => exact .inl ⟨rfl, rfl⟩
  case round =>
   rcases hrel with ⟨rfl, rfl⟩ | ⟨rfl, rfl⟩ | ⟨rfl, rfl⟩
   ·go_wp2_with fail
    go_roundw
    case rel => simp
    case measure => simp [intOf]
   ·go_wp2_with fail
    go_roundw
    case rel => simp
    case measure => simp [intOf]
   ·go_wp2_with fail
    go_ret
    exact ⟨rfl, rfl⟩
end Go.Proofs.Ytdgmoiflahoihab
