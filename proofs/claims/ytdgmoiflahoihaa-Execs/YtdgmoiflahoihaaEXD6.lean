import Derived.Test.YtdgmoiflahoihaaEXD5
import Derived.Test.YtdgmoiflahoihaaEVF

namespace Go.Proofs.Ytdgmoiflahoihaa
open Go.RowKit
set_option linter.unusedSimpArgs false
set_option linter.unusedVariables false
theorem nat_of2 {z : Int} {n : Nat} (h : bel z n = true) : ∃ k : Nat, z = k ∧ k < n := by
 unfold bel at h
 simp at h
 exact ⟨z.toNat, by omega, by omega⟩
theorem do_any (n : Nat) (x : Ic) (b : Nat) (s : XS) (w : World) (fs : List Int) (af : Option Addr) (gf of capf : Nat) (hD : DoOk n fs.length x) (hn : n ≤ 2000) (hS : XAt w b s) (hO : XOk s) (hpc : s.pc ≤ 2000) (hnl : s.notes.length ≤ 100000) (hfl : fs.length ≤ 9223372036854775807) (hF : NumCells w af gf of fs) (hgb : ∀ i, i < fs.length → gf < b) :
  Calls Try.prog 94 #[.pointer (some ⟨b, 0, none⟩), icV x, .slice af fs.length capf] w (DoPost w b (stepX x fs s)) := by
 obtain ⟨hfit, h0, hin⟩ := hD
 obtain ⟨o, a, c, d⟩ := x
 simp only at h0 hin
 unfold fitsI at hfit
 simp only [if_neg h0] at hfit
 by_cases h1 : o = 1
 ·subst h1
  simp at hfit
  obtain ⟨ka, rfl, hka⟩ := nat_of2 (n := 100) hfit.1
  exact d_set b s w hS hO hpc fs _ ka c d hka
 rw [if_neg h1] at hfit
 by_cases h2 : o = 2 ∨ o = 3
 ·rw [if_pos h2] at hfit
  simp only [Bool.and_eq_true] at hfit
  obtain ⟨ka, rfl, hka⟩ := nat_of2 (n := 100) hfit.1.1
  obtain ⟨kb, rfl, hkb⟩ := nat_of2 (n := 100) hfit.1.2
  rcases h2 with rfl | rfl
  ·exact d_copy b s w hS hO hpc fs _ ka kb d hka hkb
  ·exact d_neg b s w hS hO hpc fs _ ka kb d hka hkb
 rw [if_neg h2] at hfit
 by_cases h4 : 4 ≤ o ∧ o ≤ 10
 ·rw [if_pos h4] at hfit
  simp only [Bool.and_eq_true] at hfit
  obtain ⟨ka, rfl, hka⟩ := nat_of2 (n := 100) hfit.1.1
  obtain ⟨kb, rfl, hkb⟩ := nat_of2 (n := 100) hfit.1.2
  obtain ⟨kc, rfl, hkc⟩ := nat_of2 (n := 100) hfit.2
  obtain ⟨k, rfl⟩ : ∃ k : Nat, o = (k : Int) + 4 := ⟨(o - 4).toNat, by omega⟩
  exact d_op b s w hS hO hpc fs _ k ka kb kc (by omega) hka hkb hkc
 rw [if_neg h4] at hfit
 by_cases h5 : o = 11
 ·subst h5
  simp only [if_true, Bool.and_eq_true] at hfit
  obtain ⟨ka, rfl, hka⟩ := nat_of2 (n := 100) hfit.1.1
  obtain ⟨kb, rfl, hkb⟩ := nat_of2 (n := 26) hfit.1.2
  have := hin rfl
  exact d_in b s w hS hO hpc fs af gf of capf hF hgb hfl ka kb d hka (by omega)
 rw [if_neg h5] at hfit
 by_cases h6 : o = 12
 ·subst h6
  simp only [if_true, Bool.and_eq_true] at hfit
  obtain ⟨ka, rfl, hka⟩ := nat_of2 (n := n) hfit.1.1
  exact d_jump b s w hS hO hpc fs _ ka c d
 rw [if_neg h6] at hfit
 by_cases h7 : o = 13
 ·subst h7
  simp only [if_true, Bool.and_eq_true] at hfit
  obtain ⟨ka, rfl, hka⟩ := nat_of2 (n := 100) hfit.1.1
  obtain ⟨kb, rfl, hkb⟩ := nat_of2 (n := n) hfit.1.2
  obtain ⟨kc, rfl, hkc⟩ := nat_of2 (n := n) hfit.2
  exact d_when b s w hS hO hpc fs _ ka kb kc hka
 rw [if_neg h7] at hfit
 by_cases h8 : o = 14 ∨ o = 15
 ·rw [if_pos h8] at hfit
  simp only [Bool.and_eq_true] at hfit
  obtain ⟨ka, rfl, hka⟩ := nat_of2 (n := 401) hfit.1.1
  obtain ⟨kb, rfl, hkb⟩ := nat_of2 (n := 16) hfit.1.2
  obtain ⟨kc, rfl, hkc⟩ := nat_of2 (n := 100) hfit.2
  rcases h8 with rfl | rfl
  ·exact d_note14 b s w hS hO hpc fs _ hnl ka kb kc hkc
  ·exact d_note15 b s w hS hO hpc fs _ hnl ka kb kc hkc
 ·rw [if_neg h8] at hfit
  cases hfit
set_option maxRecDepth 100000 in
set_option maxHeartbeats 2000000 in
theorem hasFields_any (l : List Ic) (ao : Option Addr) (g o cap n : Nat) (w : World) (hc : InsCells w ao g o l) (hl : l.length ≤ 2000) :
  Calls Try.prog 93 #[.slice ao l.length cap, .int .i64 n] w fun e w' => e = .returned (.bool (hasI l n)) ∧ Below w.heap.size w w' := by
 have HC : Hid (InsCells w ao g o l) := hc
 generalize hR : hasI l n = R
 have HR : Hid (hasI l n = R) := hR
 clear hc hR
 go_enter Try.func93, Try.ntmps93
 go_wp2_with fail
 go_loopw [9] (fun x w' => ∃ k : Nat, x = .int .i64 k ∧ k ≤ l.length ∧ Hid (Below w.heap.size w w') ∧ Hid (∀ j, ∀ hj : j < l.length, j < k → ¬ (l[j].op = 11 ∧ (n : Int) ≤ l[j].b))) (fun x _ => l.length - (intOf x).toNat)
 case atStart => exact ⟨0, rfl, by omega, Below.refl _ _, fun j hj h => absurd h (by omega)⟩
 case round =>
  obtain ⟨k, rfl, hk, HB, HA⟩ := hrel
  have hsz := HB.out.size
  have HAL : Hid (∀ ob, Below w.heap.size w (wr.alloc ob)) := fun ob => HB.out.alloc hsz ob
  by_cases hlt : k < l.length
  ·have tk : decide ((k : Int) < (l.length : Int)) = true := by simp; omega
   obtain ⟨e0, hg, c0, c1, c2, c3⟩ := HC.out.below HB.out k hlt
   have HS : Hid (¬ (l[k].op = 11 ∧ (n : Int) ≤ l[k].b) → ∀ j, ∀ hj : j < l.length, j < k + 1 → ¬ (l[j].op = 11 ∧ (n : Int) ≤ l[j].b)) := by
    intro hn j hj hjk
    rcases Nat.lt_or_ge j k with h' | h'
    ·exact HA.out j hj h'
    ·have : j = k := by omega
     subst this
     exact hn
   have HF : Hid (l[k].op = 11 → (n : Int) ≤ l[k].b → R = false) := fun h1 h2 => by rw [← HR.out]; exact hasI_bad hlt h1 h2
   generalize l[k] = p at *
   obtain ⟨po, pa, pb, pc⟩ := p
   simp only at c0 c1 c2 c3 HS HF
   subst e0
   by_cases h11 : po = 11
   ·subst h11
    by_cases hb : (n : Int) ≤ pb
    ·have tb : decide ((n : Int) ≤ pb) = true := by simpa using hb
     have HG : Hid _ := HF.out rfl hb
     clear HS HF
     go_wp2_with fail
     rw [HG.out]
     go_ret
     exact ⟨rfl, HAL.out _⟩
    ·have tb : decide ((n : Int) ≤ pb) = false := by simpa using hb
     have HG : Hid _ := HS.out (fun h => hb h.2)
     clear HS HF
     go_wp2_with fail
     go_roundw
     case rel => exact ⟨k + 1, by go_num, by omega, HAL.out _, HG⟩
     case measure => simp [intOf]; omega
   ·have tb : (po == 11) = false := by rw [beq_eq_false_iff_ne]; exact h11
    have HG : Hid _ := HS.out (fun h => h11 h.1)
    clear HS HF
    go_wp2_with fail
    go_roundw
    case rel => exact ⟨k + 1, by go_num, by omega, HAL.out _, HG⟩
    case measure => simp [intOf]; omega
  ·have tk : decide ((k : Int) < (l.length : Int)) = false := by simp; omega
   have hT : R = true := by rw [← HR.out]; exact hasI_all (fun j hj => HA.out j hj (by omega))
   go_wp2_with fail
   rw [hT]
   go_ret
   exact ⟨rfl, HB.out⟩
def st202 : List Value := vlCells regs0 ++ [.slice none 0 0, .int .i64 0]
theorem st202_lit : Try.zeroCells140 = st202.toArray := by kernel_rfl
theorem st202_row {W : World} {g : Nat} (hh : W.heap[g]? = some (.cells st202.toArray 140 (0, 0))) : XAt W g x0 := by
 have hl : regs0.length = 100 := by simp [regs0]
 have hcl : (vlCells regs0).length = 200 := by rw [vlCells_len, hl]
 refine ⟨fun k hk => ?_, ⟨.slice none 0 0, ?_, World.ownsRow_nil ..⟩, ?_, fun o => by simp [World.frozen?, hh]⟩
 ·obtain ⟨d0, d1⟩ := vlCells_at regs0 k (by omega)
  have e : x0.regs.getD k vl0 = regs0[k]'(by omega) := by show regs0.getD k vl0 = _; rw [List.getD_eq_getElem?_getD, List.getElem?_eq_getElem (by omega)]; rfl
  rw [e]
  constructor
  ·rw [cell_of_row _ _ _ _ _ _ hh]; simp only [List.getElem?_toArray]; unfold st202; rw [List.getElem?_append_left (by omega)]; exact d0
  ·rw [cell_of_row _ _ _ _ _ _ hh]; simp only [List.getElem?_toArray]; unfold st202; rw [List.getElem?_append_left (by omega)]; exact d1
 ·rw [cell_of_row _ _ _ _ _ _ hh]; simp only [List.getElem?_toArray]; unfold st202; rw [List.getElem?_append_right (by omega), hcl]; rfl
 ·rw [cell_of_row _ _ _ _ _ _ hh]; simp only [List.getElem?_toArray]; unfold st202; rw [List.getElem?_append_right (by omega), hcl]; rfl
theorem st202_at (w : World) : XAt (w.alloc (.cells st202.toArray 140)) w.heap.size x0 := st202_row (heap_alloc_new w _)
structure ProgAt (l : List Ic) (fs : List Int) (w0 : World) (b : Nat) (y : Option (List Nt)) (w : World) (s : XS) (d : Nat) : Prop where
 ok : XOk s
 st : XAt w b s
 low : Below w0.heap.size w0 w
 rest : execF l fs (50000 - d) s = y
 few : s.notes.length ≤ d
 inn : s.pc < l.length
set_option maxRecDepth 100000 in
set_option maxHeartbeats 2000000 in
theorem progExec_bad (l : List Ic) (fs : List Int) (ao af : Option Addr) (g o cap gf of capf : Nat) (w : World) (hc : InsCells w ao g o l) (hf : NumCells w af gf of fs) (hfl : fs.length ≤ 9223372036854775807) (h : (validI l).1 ≠ 0) :
  Calls Try.prog 64 #[.slice ao l.length cap, .slice af fs.length capf] w (ExecPost w (execI l fs)) := by
 have HE : Hid (execI l fs = ((validI l).1, [])) := by show _ = _; unfold execI; rw [if_pos h]
 rw [HE.out]
 have HV : Hid (Calls Try.prog 32 #[.slice ao l.length cap] w fun e w' => e = .returned (verV (validI l)) ∧ Below w.heap.size w w') := judge_any l ao g o cap w hc
 clear hc hf HE
 generalize validI l = y at *
 obtain ⟨y1, y2⟩ := y
 simp only at HV h ⊢
 have t : (y1 != 0) = true := by simpa using h
 go_enter Try.func64, Try.ntmps64
 go_upto_region 2 with (go_at_call 32; refine HV.out.mono ?_; rintro e w1 ⟨rfl, hb1⟩)
 have q0 : (w1.alloc (.cells #[.int .i64 y1, .int .i64 y2] 72)).cell? ⟨w1.heap.size, 0, none⟩ = some (.int .i64 y1) := by simp [go_sem]
 have HB : Hid (Below w.heap.size w (w1.alloc (.cells #[.int .i64 y1, .int .i64 y2] 72))) := hb1.alloc hb1.size _
 generalize (w1.alloc (.cells #[.int .i64 y1, .int .i64 y2] 72)) = W at *
 clear hb1
 go_wp2_with fail
 go_region
 all_goals go_wp2_with fail
 all_goals go_ret2
 all_goals exact ⟨⟨_, rfl, fun _ => rfl, World.ownsRow_nil ..⟩, HB.out.drew⟩
set_option maxRecDepth 100000 in
set_option maxHeartbeats 2000000 in
theorem progExec_input (l : List Ic) (fs : List Int) (ao af : Option Addr) (g o cap gf of capf : Nat) (w : World) (hc : InsCells w ao g o l) (hf : NumCells w af gf of fs) (hfl : fs.length ≤ 9223372036854775807) (h : (validI l).1 = 0) (h2 : hasI l fs.length = false) :
  Calls Try.prog 64 #[.slice ao l.length cap, .slice af fs.length capf] w (ExecPost w (execI l fs)) := by
 have HE : Hid (execI l fs = (6, [])) := by show _ = _; unfold execI; rw [if_neg (by omega), if_neg (by rw [h2]; decide)]
 rw [HE.out]
 have HV : Hid (Calls Try.prog 32 #[.slice ao l.length cap] w fun e w' => e = .returned (verV (validI l)) ∧ Below w.heap.size w w') := judge_any l ao g o cap w hc
 obtain ⟨_, hln, _⟩ := valid_all h
 have HH : Hid (∀ W, Below w.heap.size w W → Calls Try.prog 93 #[.slice ao l.length cap, .int .i64 (fs.length : Nat)] W fun e w' => e = .returned (.bool false) ∧ Below W.heap.size W w') := fun W hb => by
  have := hasFields_any l ao g o cap fs.length W (hc.below hb) hln
  rw [h2] at this
  exact this
 clear hc hf HE
 generalize validI l = y at *
 obtain ⟨y1, y2⟩ := y
 simp only at HV h
 subst h
 go_enter Try.func64, Try.ntmps64
 go_upto_region 2 with (go_at_call 32; refine HV.out.mono ?_; rintro e w1 ⟨rfl, hb1⟩)
 have q0 : (w1.alloc (.cells #[.int .i64 0, .int .i64 y2] 72)).cell? ⟨w1.heap.size, 0, none⟩ = some (.int .i64 0) := by simp [go_sem]
 have HB : Hid (Below w.heap.size w (w1.alloc (.cells #[.int .i64 0, .int .i64 y2] 72))) := hb1.alloc hb1.size _
 generalize (w1.alloc (.cells #[.int .i64 0, .int .i64 y2] 72)) = W at *
 clear hb1
 go_wp2_with (go_at_call 93; refine (HH.out _ HB.out).mono ?_; rintro e w2 ⟨rfl, hb2⟩)
 go_ret2
 exact ⟨⟨_, rfl, fun _ => rfl, World.ownsRow_nil ..⟩, HB.out.trans (hb2.mono HB.out.size)⟩
set_option maxRecDepth 100000 in
set_option maxHeartbeats 4000000 in
theorem progExec_run (l : List Ic) (fs : List Int) (ao af : Option Addr) (g o cap gf of capf : Nat) (w : World) (hc : InsCells w ao g o l) (hf : NumCells w af gf of fs) (hfl : fs.length ≤ 9223372036854775807) (hgb : ∀ i, i < fs.length → gf < w.heap.size) (hlo : ∀ x ∈ l, -9223372036854775808 ≤ x.b ∧ x.b ≤ 9223372036854775807) (hfo : FsOk fs) (h : (validI l).1 = 0) (h2 : hasI l fs.length = true) :
  Calls Try.prog 64 #[.slice ao l.length cap, .slice af fs.length capf] w (ExecPost w (execI l fs)) := by
 have hE : execI l fs = (match execF l fs 50000 x0 with | none => (8, []) | some n => (0, n)) := by
  unfold execI
  rw [if_neg (by omega), if_pos h2]
  generalize execF l fs 50000 x0 = Y
  cases Y <;> rfl
 generalize hR : execI l fs = R at *
 obtain ⟨hl0, hln, hall⟩ := valid_all h
 have HALL : Hid (∀ k, ∀ hk : k < l.length, l[k].op ≠ 0 → DoOk l.length fs.length l[k]) := by
  intro k hk h0
  refine ⟨(hall k hk).1, h0, fun h11 => ?_⟩
  have a1 := hasI_at h2 hk h11
  have a2 := (hall k hk).1
  unfold fitsI at a2
  simp [h11, bel] at a2
  omega
 generalize hY : execF l fs 50000 x0 = Y at *
 have HY : Hid (execF l fs (50000 - 0) x0 = Y) := hY
 have HE : Hid _ := hE
 have HV : Hid (Calls Try.prog 32 #[.slice ao l.length cap] w fun e w' => e = .returned (verV (validI l)) ∧ Below w.heap.size w w') := judge_any l ao g o cap w hc
 have HH : Hid (∀ W, Below w.heap.size w W → Calls Try.prog 93 #[.slice ao l.length cap, .int .i64 (fs.length : Nat)] W fun e w' => e = .returned (.bool true) ∧ Below W.heap.size W w') := fun W hb => by
  have := hasFields_any l ao g o cap fs.length W (hc.below hb) hln
  rw [h2] at this
  exact this
 have HC : Hid (InsCells w ao g o l) := hc
 have HF : Hid (NumCells w af gf of fs) := hf
 have H0 : Hid ((validI l).1 = 0) := h
 have HLO : Hid (∀ x ∈ l, -9223372036854775808 ≤ x.b ∧ x.b ≤ 9223372036854775807) := hlo
 have HFO : Hid (FsOk fs) := hfo
 have HGB : Hid (∀ i, i < fs.length → gf < w.heap.size) := hgb
 have hv0 : validI l = (0, (validI l).2) := by rw [← h]
 rw [hv0] at HV
 generalize hy2 : (validI l).2 = y2 at *
 clear hc hf h2 hy2 hE hY hall hlo hfo hR hgb hv0 h
 go_enter Try.func64, Try.ntmps64
 go_upto_region 2 with (go_at_call 32; refine HV.out.mono ?_; rintro e w1 ⟨rfl, hb1⟩)
 have q0 : (w1.alloc (.cells #[.int .i64 0, .int .i64 y2] 72)).cell? ⟨w1.heap.size, 0, none⟩ = some (.int .i64 0) := by simp [go_sem]
 have HB : Hid (Below w.heap.size w (w1.alloc (.cells #[.int .i64 0, .int .i64 y2] 72))) := hb1.alloc hb1.size _
 generalize (w1.alloc (.cells #[.int .i64 0, .int .i64 y2] 72)) = W at *
 clear hb1
 go_upto_region 7 with (go_at_call 93; refine (HH.out _ HB.out).mono ?_; rintro e w2 ⟨rfl, hb2⟩)
 rw [st202_lit]
 have hs2 : w.heap.size ≤ w2.heap.size := Nat.le_trans HB.out.size hb2.size
 have HP0 : Hid (ProgAt l fs w w2.heap.size Y (w2.alloc (.cells st202.toArray 140)) x0 0) :=
  ⟨x0_ok, st202_at w2, (HB.out.trans (hb2.mono HB.out.size)).alloc hs2 _, HY.out, by simp [x0], by simp [x0]; omega⟩
 generalize (w2.alloc (.cells st202.toArray 140)) = V at *
 generalize hb : w2.heap.size = b at *
 clear hb2 hb q0
 go_wp2_with fail
 go_loopw [8] (fun x w' => ∃ (s : XS) (k : Nat), x = .int .i64 k ∧ k ≤ 50000 ∧ Hid (ProgAt l fs w b Y w' s k)) (fun x _ => 50000 - (intOf x).toNat)
 case atStart => exact ⟨x0, 0, rfl, by omega, HP0⟩
 case round =>
  obtain ⟨s, k, rfl, hk, HA⟩ := hrel
  clear HP0
  by_cases hlt : k < 50000
  ·have tk : decide ((k : Int) < 50000) = true := by simp; omega
   have hpc := HA.out.inn
   have hpc2 : s.pc ≤ 2000 := by omega
   have hlow := HA.out.low.size
   have hp := HA.out.st.pc
   obtain ⟨v, hv, hown⟩ := HA.out.st.row
   have HOWN : Hid (wr.ownsRow (b + 1) 88 5 v s.notes.length (ntCells s.notes)) := hown
   have hblt := HA.out.st.lt
   clear hown
   obtain ⟨e0, hg, c0, c1, c2, c3⟩ := (HC.out.below HA.out.low) s.pc hpc
   have ip0 : (0 : Int) ≤ (s.pc : Int) := by omega
   have ip1 : (s.pc : Int) < (l.length : Int) := by omega
   have HAL : Hid (∀ ob, Below wr.heap.size wr (wr.alloc ob)) := fun ob => (Below.refl _ _).alloc (Nat.le_refl _) _
   have HEnd : Hid (l[s.pc].op = 0 → Y = some s.notes) := fun h0 => by
    have := HA.out.rest
    rw [execF_end (by omega) hpc h0] at this
    exact this.symm
   have HStep : Hid (∀ V w', l[s.pc].op ≠ 0 → Below w.heap.size w V → XAt w' b (stepX l[s.pc] fs s) → Below b V w' → ProgAt l fs w b Y w' (stepX l[s.pc] fs s) (k + 1)) := fun V w' h0 hb1 hx hb2 => by
    refine ⟨stepX_ok HA.out.ok (HLO.out _ (List.getElem_mem _)) HFO.out, hx, hb1.trans (hb2.mono (by omega)), ?_, ?_, stepX_pc H0.out hpc h0 fs⟩
    ·have := execF_step (fs := fs) (f := 50000 - k) (by omega) hpc h0
     rw [HA.out.rest] at this
     rw [this, show 50000 - k - 1 = 50000 - (k + 1) by omega]
    ·have := stepX_notes l[s.pc] fs s
     have := HA.out.few
     omega
   have HDO : Hid (∀ V, l[s.pc].op ≠ 0 → Below wr.heap.size wr V → Calls Try.prog 94 #[.pointer (some ⟨b, 0, none⟩), icV l[s.pc], .slice af fs.length capf] V (DoPost V b (stepX l[s.pc] fs s))) := fun V h0 hb1 =>
    do_any l.length l[s.pc] b s V fs af gf of capf (HALL.out s.pc hpc h0) hln (HA.out.st.keep hb1 (Nat.le_refl _)) HA.out.ok hpc2 (by have := HA.out.few; omega) hfl ((HF.out.below HA.out.low).below hb1) (fun i hi => Nat.lt_of_lt_of_le (HGB.out i hi) hs2)
   generalize l[s.pc] = p at *
   obtain ⟨po, pa, pb, pp⟩ := p
   simp only at c0 c1 c2 c3 HEnd HStep HDO
   subst e0
   by_cases h0 : po = 0
   ·have hR := HE.out
    rw [HEnd.out h0] at hR
    simp only at hR
    subst h0
    clear HEnd HStep HDO HE
    go_wp2_with fail
    rw [hR]
    go_ret2
    exact ⟨⟨v, rfl, fun h => absurd rfl h, own_low (own_base2 HOWN.out (by omega)) (HAL.out _) (Nat.le_refl _)⟩, HA.out.low.trans ((HAL.out _).mono hlow)⟩
   ·have t0 : (po == 0) = false := by rw [beq_eq_false_iff_ne]; exact h0
    clear HEnd HE
    go_wp2_with (go_at_call 94; refine (HDO.out _ h0 (HAL.out _)).mono ?_; rintro e5 w5 ⟨rfl, hx5, hb5⟩)
    have HFIN : Hid _ := HStep.out _ _ h0 (HA.out.low.trans ((HAL.out _).mono hlow)) hx5 hb5
    go_roundw
    case rel => exact ⟨_, k + 1, by go_num, by omega, HFIN⟩
    case measure => simp [intOf]; omega
  ·have tk : decide ((k : Int) < 50000) = false := by simp; omega
   have hR := HE.out
   have hrest := HA.out.rest
   rw [show 50000 - k = 0 by omega] at hrest
   have hYn : Y = none := hrest.symm
   rw [hYn] at hR
   simp only at hR
   clear HE
   go_wp2_with fail
   rw [hR]
   go_ret2
   exact ⟨⟨_, rfl, fun _ => rfl, World.ownsRow_nil ..⟩, HA.out.low⟩
end Go.Proofs.Ytdgmoiflahoihaa
