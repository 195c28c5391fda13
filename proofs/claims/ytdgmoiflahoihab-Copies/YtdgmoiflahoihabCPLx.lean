import Derived.Test.YtdgmoiflahoihabRRTx
import Derived.Test.YtdgmoiflahoihabCPWx
import Derived.Test.YtdgmoiflahoihabCPAx
import Derived.Test.YtdgmoiflahoihabCPBx
import Derived.Test.YtdgmoiflahoihabCPCx
import Derived.Laws.IdiomStrings

namespace Go.Proofs.Ytdgmoiflahoihab
open Go.RowKit
set_option linter.unusedSimpArgs false
set_option linter.unusedVariables false
theorem cp_all (i j : Nat) (hi : i < 9) (hj : j < 9) : cpGood (cpPiece i ++ cpPiece j) 1 = true ∧ cpGood (cpPiece i ++ cpPiece j) 2 = true ∧ cpGood (cpPiece i ++ cpPiece j) 3 = true ∧ cpGood (cpPiece i) 4 = true :=
 match i, hi with
 | 0, _ => by
  obtain ⟨r, q⟩ := cp_row0
  simp only [List.all_eq_true, Bool.and_eq_true] at r
  obtain ⟨⟨a, b⟩, c⟩ := r j (by simp; omega)
  exact ⟨a, b, c, q⟩
 | 1, _ => by
  obtain ⟨r, q⟩ := cp_row1
  simp only [List.all_eq_true, Bool.and_eq_true] at r
  obtain ⟨⟨a, b⟩, c⟩ := r j (by simp; omega)
  exact ⟨a, b, c, q⟩
 | 2, _ => by
  obtain ⟨r, q⟩ := cp_row2
  simp only [List.all_eq_true, Bool.and_eq_true] at r
  obtain ⟨⟨a, b⟩, c⟩ := r j (by simp; omega)
  exact ⟨a, b, c, q⟩
 | 3, _ => by
  obtain ⟨r, q⟩ := cp_row3
  simp only [List.all_eq_true, Bool.and_eq_true] at r
  obtain ⟨⟨a, b⟩, c⟩ := r j (by simp; omega)
  exact ⟨a, b, c, q⟩
 | 4, _ => by
  obtain ⟨r, q⟩ := cp_row4
  simp only [List.all_eq_true, Bool.and_eq_true] at r
  obtain ⟨⟨a, b⟩, c⟩ := r j (by simp; omega)
  exact ⟨a, b, c, q⟩
 | 5, _ => by
  obtain ⟨r, q⟩ := cp_row5
  simp only [List.all_eq_true, Bool.and_eq_true] at r
  obtain ⟨⟨a, b⟩, c⟩ := r j (by simp; omega)
  exact ⟨a, b, c, q⟩
 | 6, _ => by
  obtain ⟨r, q⟩ := cp_row6
  simp only [List.all_eq_true, Bool.and_eq_true] at r
  obtain ⟨⟨a, b⟩, c⟩ := r j (by simp; omega)
  exact ⟨a, b, c, q⟩
 | 7, _ => by
  obtain ⟨r, q⟩ := cp_row7
  simp only [List.all_eq_true, Bool.and_eq_true] at r
  obtain ⟨⟨a, b⟩, c⟩ := r j (by simp; omega)
  exact ⟨a, b, c, q⟩
 | 8, _ => by
  obtain ⟨r, q⟩ := cp_row8
  simp only [List.all_eq_true, Bool.and_eq_true] at r
  obtain ⟨⟨a, b⟩, c⟩ := r j (by simp; omega)
  exact ⟨a, b, c, q⟩
def cpB (i : Nat) : ByteArray := ⟨(cpPiece i).toArray⟩
theorem cpPiece_len (i : Nat) (hi : i < 9) : (cpPiece i).length ≤ 30 := by
 match i, hi with
 | 0, _ => decide
 | 1, _ => decide
 | 2, _ => decide
 | 3, _ => decide
 | 4, _ => decide
 | 5, _ => decide
 | 6, _ => decide
 | 7, _ => decide
 | 8, _ => decide
theorem piece_str (c : Int) (hc : -9223372036854775808 ≤ c ∧ c ≤ 9223372036854775807) (i : Nat) (hi : pickN c 9 = i) (w : World) :
  Calls Try.prog 5 #[.int .i64 c] w fun e w' => e = .returned (.string (cpB i)) ∧ Below w.heap.size w w' := by
 have k := piece_any c hc w
 rw [hi] at k
 exact k
theorem run_known (S : ByteArray) (a b : Int) (N : List Nt) (w : World) (g : Nat) (hs : S.size ≤ 400) (ha : -9223372036854775808 ≤ a ∧ a ≤ 9223372036854775807) (hb : -9223372036854775808 ≤ b ∧ b ≤ 9223372036854775807) (h0 : w.cell? ⟨g, 0, none⟩ = some (.int .i64 a)) (h1 : w.cell? ⟨g, 1, none⟩ = some (.int .i64 b)) (hrun : runP S.data.toList [a, b] = (0, N)) :
  Calls Try.prog 8 #[.string S, .slice (some ⟨g, 0, none⟩) 2 2] w (RunPost w (0, N)) := by
 have hsl : S.data.toList.length = S.size := by simp
 have hg := World.block_lt_of_cell? w _ h0
 have hI : IntsAt w (fun k => k < w.heap.size) (.slice (some ⟨g, 0, none⟩) 2 2) [a, b] := by
  refine ⟨⟨some ⟨g, 0, none⟩, g, 2, rfl, fun i hi => ⟨rfl, hg, ?_⟩⟩⟩
  match i, hi with
  | 0, _ => exact h0
  | 1, _ => exact h1
 have k := tariffRun_any S [a, b] (.slice (some ⟨g, 0, none⟩) 2 2) w _ (by unfold maxLen; omega) (fun h hb => parse_ok (by omega) hb) (fun _ => parse_nums _) hI (fun k hk => hk) (by unfold maxLen; simp) (by intro z hz; simp at hz; rcases hz with rfl | rfl; exact ha; exact hb)
 rw [hrun] at k
 exact k
theorem notes_same {N M : List Nt} (h : N.map clr = M.map clr) : N.length = M.length ∧ ∀ i, ∀ (h1 : i < N.length) (h2 : i < M.length), N[i].kind = M[i].kind ∧ N[i].label = M[i].label ∧ N[i].val = M[i].val := by
 have hl : N.length = M.length := by have := congrArg List.length h; simpa using this
 refine ⟨hl, fun i h1 h2 => ?_⟩
 have e : (N.map clr)[i]? = (M.map clr)[i]? := by rw [h]
 rw [List.getElem?_map, List.getElem?_map, List.getElem?_eq_getElem h1, List.getElem?_eq_getElem h2] at e
 simp only [Option.map_some, Option.some.injEq, clr, Nt.mk.injEq] at e
 exact ⟨e.1, e.2.2.1, e.2.2.2⟩
theorem conv_one (W : World) (c : UInt8) : (convert 26 9 (.slice (some ⟨W.heap.size, 0, none⟩) 1 1)).run Try.prog (W.alloc (.cells #[.int .u8 c.toNat] 5)) = .ok (.string ⟨#[c]⟩) (W.alloc (.cells #[.int .u8 c.toNat] 5)) := by
 refine run_convert_bytes_back (P := Try.prog) _ 26 9 5 ⟨W.heap.size, 0, none⟩ 1 [c] Try.underlying26 Try.underlying5 Try.underlying9 ?_
 intro j hj
 match j, hj with
 | 0, _ => simp [go_sem, Addr.add]
theorem ntCells_at (l : List Nt) : ∀ (i : Nat) (h : i < l.length), (ntCells l)[i * 5]? = some (.int .i64 l[i].kind) ∧ (ntCells l)[i * 5 + 2]? = some (.int .i64 l[i].label) ∧ (ntCells l)[i * 5 + 3]? = some (.int .i64 l[i].val.num) ∧ (ntCells l)[i * 5 + 4]? = some (.int .i64 l[i].val.fault) := by
 induction l with
 | nil => intro i h; cases h
 | cons p r ih =>
  intro i h
  cases i with
  | zero => simp [ntCells, ntCell]
  | succ i =>
   have := ih i (by simpa using h)
   rw [show (i + 1) * 5 = i * 5 + 1 + 1 + 1 + 1 + 1 by omega]
   simpa [ntCells, ntCell] using this
def NotesC (w : World) (g : Nat) (N : List Nt) : Prop := ∀ q, ∀ hq : q < N.length, w.cell? ⟨g, q * 5, none⟩ = some (.int .i64 N[q].kind) ∧ w.cell? ⟨g, q * 5 + 2, none⟩ = some (.int .i64 N[q].label) ∧ w.cell? ⟨g, q * 5 + 3, none⟩ = some (.int .i64 N[q].val.num) ∧ w.cell? ⟨g, q * 5 + 4, none⟩ = some (.int .i64 N[q].val.fault)
theorem NotesC.drewN {w : World} {g : Nat} {N : List Nt} (h : NotesC w g N) (n : Nat) : NotesC (w.drewN n) g N := fun q hq => h q hq
theorem below_drewN {B : Nat} {w w' : World} (h : Below B w w') (n : Nat) : Below B w (w'.drewN n) := ⟨h.os, h.tape, h.output, h.size, h.block⟩
theorem notes_at {w : World} {g cap : Nat} {N : List Nt} (h : w.ownsRow 0 34 5 (.slice (some ⟨g, 0, none⟩) N.length cap) N.length (ntCells N)) : ∀ q, ∀ hq : q < N.length, w.cell? ⟨g, q * 5, none⟩ = some (.int .i64 N[q].kind) ∧ w.cell? ⟨g, q * 5 + 2, none⟩ = some (.int .i64 N[q].label) ∧ w.cell? ⟨g, q * 5 + 3, none⟩ = some (.int .i64 N[q].val.num) ∧ w.cell? ⟨g, q * 5 + 4, none⟩ = some (.int .i64 N[q].val.fault) := by
 intro q hq
 obtain ⟨a, b, c, d⟩ := ntCells_at N q hq
 rw [h.cellAt _ (by omega), h.cellAt _ (by omega), h.cellAt _ (by omega), h.cellAt _ (by omega)]
 exact ⟨a, b, c, d⟩
theorem notes_at2 {w : World} {g cap : Nat} {N M : List Nt} (h : w.ownsRow 0 34 5 (.slice (some ⟨g, 0, none⟩) N.length cap) N.length (ntCells M)) (hl : N.length = M.length) (hp : ∀ i, ∀ (h1 : i < N.length) (h2 : i < M.length), N[i].kind = M[i].kind ∧ N[i].label = M[i].label ∧ N[i].val = M[i].val) : ∀ q, ∀ hq : q < N.length, w.cell? ⟨g, q * 5, none⟩ = some (.int .i64 N[q].kind) ∧ w.cell? ⟨g, q * 5 + 2, none⟩ = some (.int .i64 N[q].label) ∧ w.cell? ⟨g, q * 5 + 3, none⟩ = some (.int .i64 N[q].val.num) ∧ w.cell? ⟨g, q * 5 + 4, none⟩ = some (.int .i64 N[q].val.fault) := by
 intro q hq
 rw [hl] at h
 have k := notes_at h q (by omega)
 obtain ⟨e1, e2, e3⟩ := hp q hq (by omega)
 rw [e1, e2, e3]
 exact k
theorem getD_in {zs : List Int} (h : ∀ x ∈ zs, -9223372036854775808 ≤ x ∧ x ≤ 9223372036854775807) (i : Nat) : -9223372036854775808 ≤ zs.getD i 0 ∧ zs.getD i 0 ≤ 9223372036854775807 := by
 rw [List.getD_eq_getElem?_getD]
 cases e : zs[i]? with
 | none => exact ⟨by decide, by decide⟩
 | some x => exact h x (List.mem_of_getElem? e)
theorem ArgInts.below {w w' : World} {v : Value} {zs : List Int} (h : ArgInts w v zs) (hb : Below w.heap.size w w') : ArgInts w' v zs := by
 obtain ⟨ao, cap, hv, hc⟩ := h.here
 refine ⟨ao, cap, hv, fun i hi => ?_⟩
 obtain ⟨b, off, a1, a2, a3⟩ := hc i hi
 exact ⟨b, off, a1, Nat.lt_of_lt_of_le a2 hb.size, (hb.cell (p := ⟨b, off + i, none⟩) a2).trans a3⟩
end Go.Proofs.Ytdgmoiflahoihab
