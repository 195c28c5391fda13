import Derived.Test.YtdgmoiflahoihaaEXR
import Derived.Deep.RegionHeld3

namespace Go.Proofs.Ytdgmoiflahoihaa
open Go.RowKit
set_option linter.unusedSimpArgs false
set_option linter.unusedVariables false
structure RefAt (l : List Ic) (fs : List Int) (w0 : World) (G : Nat) (y : Option (List Nt)) (v : Value) (w : World) (s : XS) (d : Nat) : Prop where
 ok : XOk s
 regs : RegsAt w G s.regs
 notes : w.ownsRow (G + 1) 88 5 v s.notes.length (ntCells s.notes)
 low : Below w0.heap.size w0 w
 rest : execF l fs (50000 - d) s = y
 few : s.notes.length ≤ d
 inn : s.pc < l.length
theorem RefAt.turn {l : List Ic} {fs : List Int} {w0 w W w' : World} {G : Nat} {y : Option (List Nt)} {v v' : Value} {s : XS} {d : Nat} (hv : (validI l).1 = 0) (hl : ∀ x ∈ l, -9223372036854775808 ≤ x.b ∧ x.b ≤ 9223372036854775807) (hf : FsOk fs) (h : RefAt l fs w0 G y v w s d) (hd : d < 49999) (h0 : (l[s.pc]'h.inn).op ≠ 0) (hw0 : w0.heap.size ≤ G)
  (hW : Below w0.heap.size w0 W) (hn : W.ownsRow (G + 1) 88 5 v' (stepX (l[s.pc]'h.inn) fs s).notes.length (ntCells (stepX (l[s.pc]'h.inn) fs s).notes)) (hr : RegsAt w' G (stepX (l[s.pc]'h.inn) fs s).regs) (hb : But G W w') : RefAt l fs w0 G y v' w' (stepX (l[s.pc]'h.inn) fs s) (d + 1) := by
 refine ⟨stepX_ok h.ok (hl _ (List.getElem_mem _)) hf, hr, ?_, ?_, ?_, ?_, stepX_pc hv h.inn h0 fs⟩
 ·exact own_same hn fun k hk hlt => hb.block k hlt (fun e => by have := (hn.lt k hk).1; cases e; omega)
 ·refine ⟨hb.os.trans hW.os, hb.tape.trans hW.tape, hb.output.trans hW.output, Nat.le_trans hW.size hb.size, fun k hk => ?_⟩
  exact (hb.block k (Nat.lt_of_lt_of_le hk hW.size) (fun e => by cases e; omega)).trans (hW.block k hk)
 ·have := execF_step (fs := fs) (f := 50000 - d) (by omega) h.inn h0
  rw [h.rest] at this
  have e : 50000 - d - 1 = 50000 - (d + 1) := by omega
  rw [e] at this
  exact this.symm
 ·have := stepX_notes (l[s.pc]'h.inn) fs s
  have := h.few
  omega
theorem stepX_keep {x : Ic} {fs : List Int} {s : XS} (h : x.op ≠ 14) (h2 : x.op ≠ 15) : (stepX x fs s).notes = s.notes := by
 unfold stepX XS.give
 repeat' split
 all_goals first | rfl | (exfalso; omega)
theorem grown_same {W w2 : World} {ob : Obj} {row : Option Nat} {k : Nat} (h : ((W.alloc ob).drew).grownBy w2 row) (hk : k < W.heap.size) (hne : row ≠ some k) : w2.heap[k]? = W.heap[k]? :=
 (h.block k (by simp [World.drew]; omega) (fun e => hne e.symm)).trans (Below.heap_alloc _ _ _ hk)
theorem low_grown {w W w2 : World} {ob : Obj} {row : Option Nat} (hB : Below w.heap.size w W) (hg : ((W.alloc ob).drew).grownBy w2 row) (hr : ∀ k, row = some k → w.heap.size ≤ k) : Below w.heap.size w w2 := by
 have hs := hB.size
 have hs2 : W.heap.size + 1 ≤ w2.heap.size := by have := hg.size; simpa [World.drew] using this
 exact ⟨hg.os.trans hB.os, hg.tape.trans hB.tape, hg.output.trans hB.output, by omega, fun k hk => (grown_same hg (by omega) (fun e => by have := hr k e; omega)).trans (hB.block k hk)⟩
set_option maxRecDepth 100000 in
set_option maxHeartbeats 4000000 in
theorem refExec_run (HT : TurnSays) (l : List Ic) (fs : List Int) (ao af : Option Addr) (g o cap gf of capf : Nat) (w : World) (hc : InsCells w ao g o l) (hf : NumCells w af gf of fs) (hfl : fs.length ≤ 9223372036854775807) (hlo : ∀ x ∈ l, -9223372036854775808 ≤ x.b ∧ x.b ≤ 9223372036854775807) (hfo : FsOk fs) (h : (validI l).1 = 0) (h2 : hasI l fs.length = true) :
  Calls Try.prog 38 #[.slice ao l.length cap, .slice af fs.length capf] w (ExecPost w (execI l fs)) := by
 have hE : execI l fs = (match execF l fs 50000 x0 with | none => (8, []) | some n => (0, n)) := by
  unfold execI
  rw [if_neg (by omega), if_pos h2]
  generalize execF l fs 50000 x0 = Y
  cases Y <;> rfl
 generalize hR : execI l fs = R at *
 obtain ⟨hl0, hln, hall⟩ := valid_all h
 have HALL : Hid (∀ k, ∀ hk : k < l.length, l[k].op ≠ 0 → DoOk l.length fs.length l[k]) := by
  intro k hk h0
  refine ⟨(hall k hk).1, h0, fun h11 => ?_⟩
  have a1 := hasI_at h2 hk h11
  have a2 := (hall k hk).1
  unfold fitsI at a2
  simp [h11, bel] at a2
  omega
 generalize hY : execF l fs 50000 x0 = Y at *
 have HY : Hid (execF l fs (50000 - 0) x0 = Y) := hY
 have HE : Hid _ := hE
 have HV : Hid (Calls Try.prog 15 #[.slice ao l.length cap] w fun e w' => e = .returned (.tuple #[.int .i64 (validI l).1, .int .i64 (validI l).2]) ∧ Below w.heap.size w w') := refValid_any l ao g o cap w hc
 have HC : Hid (InsCells w ao g o l) := hc
 have HF : Hid (NumCells w af gf of fs) := hf
 have H0 : Hid ((validI l).1 = 0) := h
 have H2 : Hid (hasI l fs.length = true) := h2
 have HTT : Hid TurnSays := HT
 have HLO : Hid (∀ x ∈ l, -9223372036854775808 ≤ x.b ∧ x.b ≤ 9223372036854775807) := hlo
 have HFO : Hid (FsOk fs) := hfo
 have hmk := make_regs
 obtain ⟨iV, hiV, hzV, hsV, hbV⟩ := parts_of_info infoNote
 rw [h] at HV
 generalize hy2 : (validI l).2 = y2 at *
 clear hc hf h2 h hy2 hE hY hall HT hlo hfo hR
 go_enter Try.func38, Try.ntmps38
 go_wp2_with (go_at_call 15; refine HV.out.mono ?_; rintro e w1 ⟨rfl, hb1⟩; have HB1 : Hid (Below w.heap.size w w1) := hb1; clear hb1)
 go_loopw [8] (fun x w' => ∃ k : Nat, x = .int .i64 k ∧ k ≤ l.length ∧ w' = w1) (fun x _ => l.length - (intOf x).toNat)
 case atStart => exact ⟨0, rfl, by omega, rfl⟩
 case round =>
  obtain ⟨k, rfl, hk, rfl⟩ := hrel
  by_cases hlt : k < l.length
  ·have tk : decide ((k : Int) < (l.length : Int)) = true := by simp; omega
   obtain ⟨e0, hg, c0, c1, c2, c3⟩ := HC.out.below HB1.out k hlt
   have hin : l[k].op = 11 → l[k].b < fs.length := fun h => hasI_at H2.out hlt h
   generalize l[k] = p at *
   obtain ⟨po, pa, pb, pc⟩ := p
   simp only at c0 c1 c2 c3 hin
   subst e0
   by_cases h11 : po = 11
   ·subst h11
    have tb : decide ((fs.length : Int) ≤ pb) = false := by have := hin rfl; simp; omega
    clear hin
    go_wp2_with fail
    go_roundw
    case rel => exact ⟨k + 1, by go_num, by omega, trivial⟩
    case measure => simp [intOf]; omega
   ·have tb : (po == 11) = false := by rw [beq_eq_false_iff_ne]; exact h11
    clear hin
    go_wp2_with fail
    go_roundw
    case rel => exact ⟨k + 1, by go_num, by omega, trivial⟩
    case measure => simp [intOf]; omega
  ·have tk : decide ((k : Int) < (l.length : Int)) = false := by simp; omega
   have hs1 := HB1.out.size
   have HRF : Hid (RefAt l fs w wr.heap.size Y (.slice none 0 0) (wr.alloc (.cells (vlArr regs0) 45)) x0 0) :=
    ⟨x0_ok, ⟨heap_alloc_new _ _⟩, World.ownsRow_nil .., HB1.out.alloc hs1 _, HY.out, by simp [x0], by simp [x0]; omega⟩
   go_wp2_with fail
   generalize (wr.alloc (.cells (vlArr regs0) 45)) = W at *
   generalize hG : wr.heap.size = G at *
   go_loopw [10, 11, 12] (fun x y z w' => ∃ (an : Option Addr) (nn cn : Nat) (s : XS) (d : Nat), x = .slice an nn cn ∧ y = .int .i64 s.pc ∧ z = .int .i64 d ∧ d < 50000 ∧ Hid (RefAt l fs w G Y (.slice an nn cn) w' s d)) (fun _ _ z _ => 50000 - (intOf z).toNat)
   case atStart => exact ⟨none, 0, 0, x0, 0, rfl, rfl, rfl, by omega, HRF⟩
   case round =>
    obtain ⟨an, nn, cn, s, d, rfl, rfl, rfl, hd, HA⟩ := hrel
    clear HRF hmk
    have hpc := HA.out.inn
    have hpc2 : s.pc ≤ 2000 := by omega
    have hwG : w.heap.size ≤ G := by omega
    have hlow := HA.out.low.size
    obtain ⟨e0, hg, c0, c1, c2, c3⟩ := (HC.out.below HA.out.low) s.pc hpc
    have HF2 : Hid (NumCells wr af gf of fs) := HF.out.below HA.out.low
    have HDO : Hid (l[s.pc].op ≠ 0 → DoOk l.length fs.length l[s.pc]) := HALL.out s.pc hpc
    have HEnd : Hid (l[s.pc].op = 0 → Y = some s.notes) := fun h0 => by
     have := HA.out.rest
     rw [execF_end (by omega) hpc h0] at this
     exact this.symm
    have HStop : Hid (d = 49999 → l[s.pc].op ≠ 0 → Y = none) := fun hd9 h0 => by
     have := HA.out.rest
     rw [execF_step (by omega) hpc h0, show 50000 - d - 1 = 0 by omega] at this
     exact this.symm
    have HTurn : Hid (∀ v' W w', d < 49999 → l[s.pc].op ≠ 0 → Below w.heap.size w W → W.ownsRow (G + 1) 88 5 v' (stepX l[s.pc] fs s).notes.length (ntCells (stepX l[s.pc] fs s).notes) → RegsAt w' G (stepX l[s.pc] fs s).regs → But G W w' → RefAt l fs w G Y v' w' (stepX l[s.pc] fs s) (d + 1)) := fun v' W w' a1 a2 a3 a4 a5 a6 => HA.out.turn H0.out HLO.out HFO.out a1 a2 hwG a3 a4 a5 a6
    generalize l[s.pc] = p at *
    obtain ⟨po, pa, pb, pp⟩ := p
    simp only at c0 c1 c2 c3 HDO HEnd HStop HTurn
    subst e0
    by_cases h0 : po = 0
    ·have hR := HE.out
     rw [HEnd.out h0] at hR
     simp only at hR
     subst h0
     clear HEnd HStop HTurn HDO HE
     go_wp2_with fail
     rw [hR]
     go_ret2
     exact ⟨⟨_, rfl, fun h => absurd rfl h, own_base2 HA.out.notes (by omega)⟩, HA.out.low⟩
    have t0 : (po != 0) = true := by simpa using h0
    by_cases hd9 : d = 49999
    ·have hR := HE.out
     rw [HStop.out hd9 h0] at hR
     simp only at hR
     have td : decide ((50000 : Int) ≤ (d : Int) + 1) = true := by simp; omega
     clear HEnd HStop HTurn HDO HE
     go_wp2_with fail
     rw [hR]
     go_ret2
     exact ⟨⟨_, rfl, fun _ => rfl, World.ownsRow_nil ..⟩, HA.out.low⟩
    have td : decide ((50000 : Int) ≤ (d : Int) + 1) = false := by simp; omega
    have hd8 : d < 49999 := by omega
    by_cases h14 : po = 14
    ·subst h14
     have hfit := (HDO.out (by simp)).fit
     simp [fitsI, bel] at hfit
     obtain ⟨na, rfl⟩ : ∃ na : Nat, pa = na := ⟨pa.toNat, by omega⟩
     obtain ⟨nb, rfl⟩ : ∃ nb : Nat, pb = nb := ⟨pb.toNat, by omega⟩
     obtain ⟨nc, rfl⟩ : ∃ nc : Nat, pp = nc := ⟨pp.toNat, by omega⟩
     have hnc : nc < 100 := by omega
     clear hfit
     have HS : Hid (∀ v' W w', d < 49999 → Below w.heap.size w W → W.ownsRow (G + 1) 88 5 v' (s.notes ++ [(⟨0, na, nb, s.regs.getD nc vl0⟩ : Nt)]).length (ntCells (s.notes ++ [(⟨0, na, nb, s.regs.getD nc vl0⟩ : Nt)])) → RegsAt w' G (stepX ⟨14, na, nb, nc⟩ fs s).regs → But G W w' → RefAt l fs w G Y v' w' (stepX ⟨14, na, nb, nc⟩ fs s) (d + 1)) := by
      intro v' W w' a1 a2 a3 a4 a5
      refine HTurn.out v' W w' a1 (by simp) a2 ?_ a4 a5
      have e : (stepX ⟨14, (na : Int), (nb : Int), (nc : Int)⟩ fs s).notes = s.notes ++ [(⟨0, na, nb, s.regs.getD nc vl0⟩ : Nt)] := by unfold stepX; simp [XS.reg]
      rw [e]
      exact a3
     obtain ⟨r0, r1⟩ := HA.out.regs.cell nc (by rw [HA.out.ok.len]; exact hnc)
     have HO : Hid (wr.ownsRow (G + 1) 88 5 (.slice an nn cn) s.notes.length (ntCells s.notes)) := HA.out.notes
     have HRG : Hid (RegsAt wr G s.regs) := HA.out.regs
     have HLW : Hid (Below w.heap.size w wr) := HA.out.low
     have hnl : s.notes.length ≤ 50000 := by have := HA.out.few; omega
     have hGlt : G < wr.heap.size := HA.out.regs.lt
     have HXO : Hid (XOk s) := HA.out.ok
     have HDO2 : Hid (DoOk l.length fs.length ⟨14, na, nb, nc⟩) := HDO.out (by simp)
     have hB1 : Below wr.heap.size wr (wr.alloc (.cells #[.int .i64 14, .int .i64 na, .int .i64 nb, .int .i64 nc] 70)) := (Below.refl _ _).alloc (Nat.le_refl _) _
     have k0 : (wr.alloc (.cells #[.int .i64 14, .int .i64 na, .int .i64 nb, .int .i64 nc] 70)).cell? ⟨wr.heap.size, 0, none⟩ = some (.int .i64 14) := by simp [go_sem]
     have k1 : (wr.alloc (.cells #[.int .i64 14, .int .i64 na, .int .i64 nb, .int .i64 nc] 70)).cell? ⟨wr.heap.size, 1, none⟩ = some (.int .i64 na) := by simp [go_sem]
     have k2 : (wr.alloc (.cells #[.int .i64 14, .int .i64 na, .int .i64 nb, .int .i64 nc] 70)).cell? ⟨wr.heap.size, 2, none⟩ = some (.int .i64 nb) := by simp [go_sem]
     have k3 : (wr.alloc (.cells #[.int .i64 14, .int .i64 na, .int .i64 nb, .int .i64 nc] 70)).cell? ⟨wr.heap.size, 3, none⟩ = some (.int .i64 nc) := by simp [go_sem]
     have hWs : (wr.alloc (.cells #[.int .i64 14, .int .i64 na, .int .i64 nb, .int .i64 nc] 70)).heap.size = wr.heap.size + 1 := by simp
     rw [← hB1.cell (p := (⟨G, nc * 2, none⟩ : Addr)) hGlt] at r0
     rw [← hB1.cell (p := (⟨G, nc * 2 + 1, none⟩ : Addr)) hGlt] at r1
     have in0 : (0 : Int) ≤ (nc : Int) := by omega
     have in1 : (nc : Int) < 100 := by omega
     clear HA HTurn HEnd HStop HDO HALL
     go_upto_region 19 with fail
     generalize (wr.alloc (.cells #[.int .i64 14, .int .i64 na, .int .i64 nb, .int .i64 nc] 70)) = W at *
     have HOW : Hid (W.ownsRow (G + 1) 88 5 (.slice an nn cn) s.notes.length (ntCells s.notes)) := own_low HO.out hB1 (Nat.le_refl _)
     have HRW : Hid (RegsAt W G s.regs) := HRG.out.block (hB1.block G hGlt)
     have HBW : Hid (Below w.heap.size w W) := HLW.out.trans (hB1.mono hlow)
     have HK : Hid (∀ V : World, V.heap[wr.heap.size]? = W.heap[wr.heap.size]? → V.heap[G]? = W.heap[G]? → V.cell? ⟨wr.heap.size, 0, none⟩ = some (.int .i64 14) ∧ V.cell? ⟨wr.heap.size, 1, none⟩ = some (.int .i64 na) ∧ V.cell? ⟨wr.heap.size, 2, none⟩ = some (.int .i64 nb) ∧ V.cell? ⟨wr.heap.size, 3, none⟩ = some (.int .i64 nc) ∧ V.cell? ⟨G, nc * 2, none⟩ = some (.int .i64 (s.regs.getD nc vl0).num) ∧ V.cell? ⟨G, nc * 2 + 1, none⟩ = some (.int .i64 (s.regs.getD nc vl0).fault)) := fun V e e' => ⟨(World.cell?_of_block (a := ⟨wr.heap.size, 0, none⟩) e).trans k0, (World.cell?_of_block (a := ⟨wr.heap.size, 1, none⟩) e).trans k1, (World.cell?_of_block (a := ⟨wr.heap.size, 2, none⟩) e).trans k2, (World.cell?_of_block (a := ⟨wr.heap.size, 3, none⟩) e).trans k3, (World.cell?_of_block (a := ⟨G, nc * 2, none⟩) e').trans r0, (World.cell?_of_block (a := ⟨G, nc * 2 + 1, none⟩) e').trans r1⟩
     have hbW : wr.heap.size < W.heap.size := by omega
     have hGW : G < W.heap.size := by omega
     have KB : Hid (W.heap[wr.heap.size]? = W.heap[wr.heap.size]?) := rfl
     have HWK : Hid (Below wr.heap.size wr W) := hB1
     have HOB : Hid (∀ k, (Value.slice an nn cn).ownBlock = some k → G + 1 ≤ k ∧ k < wr.heap.size) := fun k hk => HO.out.lt k hk
     clear hB1 k0 k1 k2 k3 hWs r0 r1 HO HRG HLW
     go_region_held3 (fun w' => w'.cell? ⟨wr.heap.size, 0, none⟩ = some (.int .i64 14) ∧ w'.cell? ⟨wr.heap.size, 1, none⟩ = some (.int .i64 na) ∧ w'.cell? ⟨wr.heap.size, 2, none⟩ = some (.int .i64 nb) ∧ w'.cell? ⟨wr.heap.size, 3, none⟩ = some (.int .i64 nc) ∧ w'.cell? ⟨G, nc * 2, none⟩ = some (.int .i64 (s.regs.getD nc vl0).num) ∧ w'.cell? ⟨G, nc * 2 + 1, none⟩ = some (.int .i64 (s.regs.getD nc vl0).fault)) (first | exact HK.out _ rfl rfl | exact HK.out _ (Below.heap_alloc _ _ _ hbW) (Below.heap_alloc _ _ _ hGW) | exact HK.out _ hk1 hk2) ((refine rv_append2 rfl (.tmp 67) (.tmp 81) 35 rfl (G + 1) 88 iV (.agg #[.int .i64 0, .int .i64 0, .int .i64 0, .int .i64 0, .int .i64 0]) 5 40 Try.underlying35 hiV hzV hsV hbV rfl (by decide) (.slice an nn cn) s.notes.length (ntCells s.notes) (by simp [Act.eval, Act.put]) (by exact (HOW.out.alloc _).drew) ⟨W.heap.size, 0, none⟩ 1 1 (ntCell ⟨0, na, nb, s.regs.getD nc vl0⟩) (by simp [Act.eval, Act.put]) rfl (by exact nt_new W ⟨0, na, nb, s.regs.getD nc vl0⟩ 88) (by intro q hq; simp [ntCell] at hq; rcases hq with rfl | rfl | rfl | rfl | rfl <;> rfl) (by unfold maxLen; omega) (by omega) (by simp; omega) (by decide) ?_; intro v' w2 hown hgrow hfr; have hk1 : w2.heap[wr.heap.size]? = W.heap[wr.heap.size]? := grown_same hgrow hbW (fun e => by have := (HOB.out _ e).2; omega); have hk2 : w2.heap[G]? = W.heap[G]? := grown_same hgrow hGW (fun e => by have := (HOB.out _ e).1; omega); have hlow2 := low_grown HBW.out hgrow (fun k e => by have := (HOB.out _ e).1; omega); obtain ⟨gn, capn, rfl⟩ := Joins.ownsRow_form hown (by omega)))
     all_goals (go_wp2_with (go_at_call 65; refine (HTT.out l.length _ G s _ fs af gf of capf HDO2.out hln (HRW.out.block hk2) HXO.out hpc2 hfl (HF.out.below hlow2)).mono ?_; rintro e5 w5 ⟨rfl, hr5, hb5⟩))
     have HFIN : Hid _ := HS.out _ _ _ hd8 hlow2 (by rw [ntCells_app]; simpa [ntCells] using hown) hr5 hb5
     go_roundw
     case rel => exact ⟨some ⟨gn, 0, none⟩, _, capn, _, d + 1, rfl, rfl, by go_num, by omega, HFIN⟩
     case measure => simp [intOf]; omega
    by_cases h15 : po = 15
    ·subst h15
     have hfit := (HDO.out (by simp)).fit
     simp [fitsI, bel] at hfit
     obtain ⟨na, rfl⟩ : ∃ na : Nat, pa = na := ⟨pa.toNat, by omega⟩
     obtain ⟨nb, rfl⟩ : ∃ nb : Nat, pb = nb := ⟨pb.toNat, by omega⟩
     obtain ⟨nc, rfl⟩ : ∃ nc : Nat, pp = nc := ⟨pp.toNat, by omega⟩
     have hnc : nc < 100 := by omega
     clear hfit
     have HS : Hid (∀ v' W w', d < 49999 → Below w.heap.size w W → W.ownsRow (G + 1) 88 5 v' (s.notes ++ [(⟨1, na, nb, s.regs.getD nc vl0⟩ : Nt)]).length (ntCells (s.notes ++ [(⟨1, na, nb, s.regs.getD nc vl0⟩ : Nt)])) → RegsAt w' G (stepX ⟨15, na, nb, nc⟩ fs s).regs → But G W w' → RefAt l fs w G Y v' w' (stepX ⟨15, na, nb, nc⟩ fs s) (d + 1)) := by
      intro v' W w' a1 a2 a3 a4 a5
      refine HTurn.out v' W w' a1 (by simp) a2 ?_ a4 a5
      have e : (stepX ⟨15, (na : Int), (nb : Int), (nc : Int)⟩ fs s).notes = s.notes ++ [(⟨1, na, nb, s.regs.getD nc vl0⟩ : Nt)] := by unfold stepX; simp [XS.reg]
      rw [e]
      exact a3
     obtain ⟨r0, r1⟩ := HA.out.regs.cell nc (by rw [HA.out.ok.len]; exact hnc)
     have HO : Hid (wr.ownsRow (G + 1) 88 5 (.slice an nn cn) s.notes.length (ntCells s.notes)) := HA.out.notes
     have HRG : Hid (RegsAt wr G s.regs) := HA.out.regs
     have HLW : Hid (Below w.heap.size w wr) := HA.out.low
     have hnl : s.notes.length ≤ 50000 := by have := HA.out.few; omega
     have hGlt : G < wr.heap.size := HA.out.regs.lt
     have HXO : Hid (XOk s) := HA.out.ok
     have HDO2 : Hid (DoOk l.length fs.length ⟨15, na, nb, nc⟩) := HDO.out (by simp)
     have hB1 : Below wr.heap.size wr (wr.alloc (.cells #[.int .i64 15, .int .i64 na, .int .i64 nb, .int .i64 nc] 70)) := (Below.refl _ _).alloc (Nat.le_refl _) _
     have k0 : (wr.alloc (.cells #[.int .i64 15, .int .i64 na, .int .i64 nb, .int .i64 nc] 70)).cell? ⟨wr.heap.size, 0, none⟩ = some (.int .i64 15) := by simp [go_sem]
     have k1 : (wr.alloc (.cells #[.int .i64 15, .int .i64 na, .int .i64 nb, .int .i64 nc] 70)).cell? ⟨wr.heap.size, 1, none⟩ = some (.int .i64 na) := by simp [go_sem]
     have k2 : (wr.alloc (.cells #[.int .i64 15, .int .i64 na, .int .i64 nb, .int .i64 nc] 70)).cell? ⟨wr.heap.size, 2, none⟩ = some (.int .i64 nb) := by simp [go_sem]
     have k3 : (wr.alloc (.cells #[.int .i64 15, .int .i64 na, .int .i64 nb, .int .i64 nc] 70)).cell? ⟨wr.heap.size, 3, none⟩ = some (.int .i64 nc) := by simp [go_sem]
     have hWs : (wr.alloc (.cells #[.int .i64 15, .int .i64 na, .int .i64 nb, .int .i64 nc] 70)).heap.size = wr.heap.size + 1 := by simp
     rw [← hB1.cell (p := (⟨G, nc * 2, none⟩ : Addr)) hGlt] at r0
     rw [← hB1.cell (p := (⟨G, nc * 2 + 1, none⟩ : Addr)) hGlt] at r1
     have in0 : (0 : Int) ≤ (nc : Int) := by omega
     have in1 : (nc : Int) < 100 := by omega
     clear HA HTurn HEnd HStop HDO HALL
     go_upto_region 19 with fail
     generalize (wr.alloc (.cells #[.int .i64 15, .int .i64 na, .int .i64 nb, .int .i64 nc] 70)) = W at *
     have HOW : Hid (W.ownsRow (G + 1) 88 5 (.slice an nn cn) s.notes.length (ntCells s.notes)) := own_low HO.out hB1 (Nat.le_refl _)
     have HRW : Hid (RegsAt W G s.regs) := HRG.out.block (hB1.block G hGlt)
     have HBW : Hid (Below w.heap.size w W) := HLW.out.trans (hB1.mono hlow)
     have HK : Hid (∀ V : World, V.heap[wr.heap.size]? = W.heap[wr.heap.size]? → V.heap[G]? = W.heap[G]? → V.cell? ⟨wr.heap.size, 0, none⟩ = some (.int .i64 15) ∧ V.cell? ⟨wr.heap.size, 1, none⟩ = some (.int .i64 na) ∧ V.cell? ⟨wr.heap.size, 2, none⟩ = some (.int .i64 nb) ∧ V.cell? ⟨wr.heap.size, 3, none⟩ = some (.int .i64 nc) ∧ V.cell? ⟨G, nc * 2, none⟩ = some (.int .i64 (s.regs.getD nc vl0).num) ∧ V.cell? ⟨G, nc * 2 + 1, none⟩ = some (.int .i64 (s.regs.getD nc vl0).fault)) := fun V e e' => ⟨(World.cell?_of_block (a := ⟨wr.heap.size, 0, none⟩) e).trans k0, (World.cell?_of_block (a := ⟨wr.heap.size, 1, none⟩) e).trans k1, (World.cell?_of_block (a := ⟨wr.heap.size, 2, none⟩) e).trans k2, (World.cell?_of_block (a := ⟨wr.heap.size, 3, none⟩) e).trans k3, (World.cell?_of_block (a := ⟨G, nc * 2, none⟩) e').trans r0, (World.cell?_of_block (a := ⟨G, nc * 2 + 1, none⟩) e').trans r1⟩
     have hbW : wr.heap.size < W.heap.size := by omega
     have hGW : G < W.heap.size := by omega
     have KB : Hid (W.heap[wr.heap.size]? = W.heap[wr.heap.size]?) := rfl
     have HWK : Hid (Below wr.heap.size wr W) := hB1
     have HOB : Hid (∀ k, (Value.slice an nn cn).ownBlock = some k → G + 1 ≤ k ∧ k < wr.heap.size) := fun k hk => HO.out.lt k hk
     clear hB1 k0 k1 k2 k3 hWs r0 r1 HO HRG HLW
     go_region_held3 (fun w' => w'.cell? ⟨wr.heap.size, 0, none⟩ = some (.int .i64 15) ∧ w'.cell? ⟨wr.heap.size, 1, none⟩ = some (.int .i64 na) ∧ w'.cell? ⟨wr.heap.size, 2, none⟩ = some (.int .i64 nb) ∧ w'.cell? ⟨wr.heap.size, 3, none⟩ = some (.int .i64 nc) ∧ w'.cell? ⟨G, nc * 2, none⟩ = some (.int .i64 (s.regs.getD nc vl0).num) ∧ w'.cell? ⟨G, nc * 2 + 1, none⟩ = some (.int .i64 (s.regs.getD nc vl0).fault)) (first | exact HK.out _ rfl rfl | exact HK.out _ (Below.heap_alloc _ _ _ hbW) (Below.heap_alloc _ _ _ hGW) | exact HK.out _ hk1 hk2) ((refine rv_append2 rfl (.tmp 67) (.tmp 81) 35 rfl (G + 1) 88 iV (.agg #[.int .i64 0, .int .i64 0, .int .i64 0, .int .i64 0, .int .i64 0]) 5 40 Try.underlying35 hiV hzV hsV hbV rfl (by decide) (.slice an nn cn) s.notes.length (ntCells s.notes) (by simp [Act.eval, Act.put]) (by exact (HOW.out.alloc _).drew) ⟨W.heap.size, 0, none⟩ 1 1 (ntCell ⟨1, na, nb, s.regs.getD nc vl0⟩) (by simp [Act.eval, Act.put]) rfl (by exact nt_new W ⟨1, na, nb, s.regs.getD nc vl0⟩ 88) (by intro q hq; simp [ntCell] at hq; rcases hq with rfl | rfl | rfl | rfl | rfl <;> rfl) (by unfold maxLen; omega) (by omega) (by simp; omega) (by decide) ?_; intro v' w2 hown hgrow hfr; have hk1 : w2.heap[wr.heap.size]? = W.heap[wr.heap.size]? := grown_same hgrow hbW (fun e => by have := (HOB.out _ e).2; omega); have hk2 : w2.heap[G]? = W.heap[G]? := grown_same hgrow hGW (fun e => by have := (HOB.out _ e).1; omega); have hlow2 := low_grown HBW.out hgrow (fun k e => by have := (HOB.out _ e).1; omega); obtain ⟨gn, capn, rfl⟩ := Joins.ownsRow_form hown (by omega)))
     all_goals (go_wp2_with (go_at_call 65; refine (HTT.out l.length _ G s _ fs af gf of capf HDO2.out hln (HRW.out.block hk2) HXO.out hpc2 hfl (HF.out.below hlow2)).mono ?_; rintro e5 w5 ⟨rfl, hr5, hb5⟩))
     have HFIN : Hid _ := HS.out _ _ _ hd8 hlow2 (by rw [ntCells_app]; simpa [ntCells] using hown) hr5 hb5
     go_roundw
     case rel => exact ⟨some ⟨gn, 0, none⟩, _, capn, _, d + 1, rfl, rfl, by go_num, by omega, HFIN⟩
     case measure => simp [intOf]; omega
    have t14 : (po == 14) = false := by rw [beq_eq_false_iff_ne]; exact h14
    have t15 : (po == 15) = false := by rw [beq_eq_false_iff_ne]; exact h15
    have HDO2 : Hid (DoOk l.length fs.length ⟨po, pa, pb, pp⟩) := HDO.out h0
    have HOW : Hid (∀ W, Below wr.heap.size wr W → W.ownsRow (G + 1) 88 5 (.slice an nn cn) (stepX ⟨po, pa, pb, pp⟩ fs s).notes.length (ntCells (stepX ⟨po, pa, pb, pp⟩ fs s).notes)) := by
     intro W hb
     rw [stepX_keep h14 h15]
     exact own_low HA.out.notes hb (Nat.le_refl _)
    have HRG : Hid (RegsAt wr G s.regs) := HA.out.regs
    have hGlt : G < wr.heap.size := HA.out.regs.lt
    have HLW : Hid (Below w.heap.size w wr) := HA.out.low
    have HXO : Hid (XOk s) := HA.out.ok
    have HAL : Hid (∀ ob, Below wr.heap.size wr (wr.alloc ob)) := fun ob => (Below.refl _ _).alloc (Nat.le_refl _) _
    clear HA HEnd HStop HDO HALL
    go_wp2_with (go_at_call 65; refine (HTT.out l.length ⟨po, pa, pb, pp⟩ G s _ fs af gf of capf HDO2.out hln (HRG.out.block ((HAL.out _).block G hGlt)) HXO.out hpc2 hfl (HF2.out.below (HAL.out _))).mono ?_; rintro e5 w5 ⟨rfl, hr5, hb5⟩)
    have HFIN : Hid _ := HTurn.out _ _ _ hd8 h0 (HLW.out.trans ((HAL.out _).mono hlow)) (HOW.out _ (HAL.out _)) hr5 hb5
    go_roundw
    case rel => exact ⟨an, nn, cn, _, d + 1, rfl, rfl, by go_num, by omega, HFIN⟩
    case measure => simp [intOf]; omega
end Go.Proofs.Ytdgmoiflahoihaa
