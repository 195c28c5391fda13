import Derived.Test.YtdgmoiflahoihaaGreatRSplit
import Derived.Test.YtdgmoiflahoihaaGreatROp2
import Derived.Test.YtdgmoiflahoihaaGreatPEv
import Derived.Test.YtdgmoiflahoihaaGreatCHead
import Derived.Test.YtdgmoiflahoihaaGreatRPile
import Derived.Deep.RegionHeld3

/- 'value' of the document's answer. -/
namespace Go.Proofs.YtdgmoiflahoihaaGreat
open Go.RowKit
set_option linter.unusedSimpArgs false
set_option linter.unusedVariables false

theorem spRun_range : ∀ (l : List UInt8) (i : Nat) (s : Sp), (spRun l i s).b = s.b ∨ ((i : Int) ≤ (spRun l i s).b ∧ (spRun l i s).b < i + l.length)
  | [], i, s => .inl rfl
  | c :: l, i, s => by
    have h := spRun_range l (i + 1) (spStep s i c)
    have hb : (spStep s i c).b = s.b ∨ (spStep s i c).b = i := by
      unfold spStep
      split
      · exact .inr rfl
      · exact .inl rfl
    show (spRun l (i + 1) (spStep s i c)).b = s.b ∨ _
    simp only [spRun, List.length_cons]
    rcases h with h | h
    · rcases hb with hb | hb
      · left; rw [h, hb]
      · right; rw [h, hb]; omega
    · right; omega

theorem split_range {C : List UInt8} {lo hi : Nat} (h : 0 ≤ splitC C lo hi) (hl : lo ≤ hi) (hh : hi ≤ C.length) : lo ≤ (splitC C lo hi).toNat ∧ (splitC C lo hi).toNat < hi := by
  have k := spRun_range (seg C lo hi) lo sp0
  have hs : (seg C lo hi).length = hi - lo := seg_length hh
  unfold splitC at h ⊢
  rcases k with k | k
  · rw [k] at h
    simp [sp0] at h
  · omega

theorem opC_ok (c : UInt8) {x y : Vl} (hx : VlOk x) (hy : VlOk y) : VlOk (opC c x y) := by
  unfold opC
  split
  · exact hx
  split
  · exact hy
  split
  · exact vlOf_ok _
  split
  · exact vlOf_ok _
  split
  · exact vlOf_ok _
  split
  · split <;> exact ⟨by simp, by simp, by simp⟩
  split
  · split <;> exact ⟨by simp, by simp, by simp⟩
  split
  · exact divV_ok _ _
  · exact remV_ok _ hx.num

theorem numC_range : ∀ (l : List UInt8) (n : Int) (m : Nat), (∀ c ∈ l, dgB c = true) → 0 ≤ n → n < 10 ^ m → 0 ≤ numC l n ∧ numC l n < 10 ^ (m + l.length)
  | [], n, m, _, h0, h1 => ⟨h0, by simpa [numC] using h1⟩
  | c :: l, n, m, h, h0, h1 => by
    have hc := h c (by simp)
    have hcb : 48 ≤ c.toNat ∧ c.toNat ≤ 57 := by
      unfold dgB at hc
      simp at hc
      exact hc
    have e : (10 : Int) ^ (m + 1) = 10 ^ m * 10 := by rw [Int.pow_succ]
    have k := numC_range l (10 * n + ((c.toNat : Int) - 48)) (m + 1) (fun d hd => h d (by simp [hd])) (by omega) (by rw [e]; omega)
    simp only [numC, List.length_cons]
    rw [show m + (l.length + 1) = m + 1 + l.length by omega]
    exact k

/-- The values of names lie at a block's head. -/
def ValsAt (w : World) (g : Nat) (names : List Vl) : Prop := ∀ k, k < 26 → w.cell? ⟨g, k * 2, none⟩ = some (.int .i64 (names.getD k vl0).num) ∧ w.cell? ⟨g, k * 2 + 1, none⟩ = some (.int .i64 (names.getD k vl0).fault)

theorem ValsAt.lt {w : World} {g : Nat} {names : List Vl} (h : ValsAt w g names) : g < w.heap.size := World.block_lt_of_cell? w _ (h 0 (by omega)).1

theorem ValsAt.below {w w' : World} {g : Nat} {names : List Vl} (h : ValsAt w g names) (hb : Below w.heap.size w w') : ValsAt w' g names := by
  have hlt := h.lt
  intro k hk
  exact ⟨(hb.cell (p := ⟨g, k * 2, none⟩) hlt).trans (h k hk).1, (hb.cell (p := ⟨g, k * 2 + 1, none⟩) hlt).trans (h k hk).2⟩

/-- 'value' gives v of the piece from lo to hi. -/
def ValGives (b gw : Nat) (C : List UInt8) (A : List Int) (names : List Vl) (lo hi : Nat) (v : Vl) : Prop :=
  ∀ w, BookAt w b C A → ValsAt w gw names → Calls Tryz.prog 39 #[.pointer (some ⟨b, 0, none⟩), .pointer (some ⟨gw, 0, none⟩), .int .i64 lo, .int .i64 hi] w fun e w' => e = .returned (vlV v) ∧ Below w.heap.size w w'


set_option maxRecDepth 100000 in
set_option maxHeartbeats 2000000 in
theorem v_paren {b gw : Nat} {C : List UInt8} {A : List Int} {names : List Vl} {lo hi : Nat} {v : Vl} (hl : lo < hi) (hh : hi ≤ C.length) (hs : splitC C lo hi = -1) (hc : C[lo]? = some 40) (hv : ValGives b gw C A names (lo + 1) (hi - 1) v) : ValGives b gw C A names lo hi v := by
  intro w hB hV
  have hlt := World.block_lt_of_cell? w _ (show w.cell? ⟨b, 0, none⟩ = _ from hB.here.choose_spec.choose_spec.choose_spec.choose_spec.choose_spec.choose_spec.1)
  have hgl := hV.lt
  have hBb : Below w.heap.size w (w.alloc (.cells #[.int .i64 0, .int .i64 0] 47)) := (Below.refl _ _).alloc (Nat.le_refl _) _
  have hRes : ResAt (w.alloc (.cells #[.int .i64 0, .int .i64 0] 47)) w.heap.size := ⟨by simp [go_sem], by simp [go_sem], fun o => by simp [go_sem]⟩
  have hsz : (w.alloc (.cells #[.int .i64 0, .int .i64 0] 47)).heap.size = w.heap.size + 1 := by simp
  have hBW := hB.below hBb
  have hVW := hV.below hBb
  clear hB hV
  go_enter Tryz.func39, Tryz.ntmps39
  go_upto_region 1 with fail
  generalize (w.alloc (.cells #[.int .i64 0, .int .i64 0] 47)) = W at *
  have HBW : Hid (BookAt W b C A) := hBW
  have HVW : Hid (ValsAt W gw names) := hVW
  have HBb : Hid (Below w.heap.size w W) := hBb
  have HRes : Hid (ResAt W w.heap.size) := hRes
  have HSP : Hid (Calls Tryz.prog 60 #[.pointer (some ⟨b, 0, none⟩), .int .i64 lo, .int .i64 hi] W fun e w' => e = .returned (.int .i64 (splitC C lo hi)) ∧ w' = W) := split_any b lo hi C A W hBW (by omega) hh
  rw [hs] at HSP
  obtain ⟨hC, hA, ac, aa, bc, ba, capc, capa, h0, h1, hcc, ha⟩ := hBW
  obtain ⟨rfl, hck⟩ := hcc lo (by omega)
  have e : C[lo]'(by omega) = 40 := (List.getElem?_eq_some_iff.mp hc).2
  rw [e] at hck
  have hck : W.cell? ⟨bc, lo, none⟩ = some (.int .u8 40) := hck
  have HV : Hid (Calls Tryz.prog 39 #[.pointer (some ⟨b, 0, none⟩), .pointer (some ⟨gw, 0, none⟩), .int .i64 ((lo : Int) + 1), .int .i64 ((hi : Int) - 1)] W fun e w' => e = .returned (vlV v) ∧ Below W.heap.size W w') := by
    have k := hv W HBW.out HVW.out
    rw [show ((lo + 1 : Nat) : Int) = (lo : Int) + 1 by omega, show ((hi - 1 : Nat) : Int) = (hi : Int) - 1 by omega] at k
    exact k
  clear hcc ha hv hRes hBb hVW e hs hc
  obtain ⟨vn, vf⟩ := v
  go_wp2_with (first | (go_at_call 60; refine HSP.out.mono ?_; rintro e1 w1 ⟨rfl, hw1⟩; rw [hw1]; clear hw1) | (go_at_call 39; refine HV.out.mono ?_; rintro e2 w2 ⟨rfl, hb2⟩; obtain ⟨s0, s1, sf⟩ := HRes.out.of_block (hb2.block _ (by omega)); have HB2 : Hid (Below W.heap.size W w2) := hb2; clear hb2))
  refine bodyPost_ret (v := vlV ⟨vn, vf⟩) (by simp [results, Tryz.results39, go_sem, s0, s1, sf]) rfl ⟨rfl, ?_⟩
  exact ((HBb.out.trans (HB2.out.mono (by omega))).setCell (by simp) _).setCell (by simp) _

end Go.Proofs.YtdgmoiflahoihaaGreat
