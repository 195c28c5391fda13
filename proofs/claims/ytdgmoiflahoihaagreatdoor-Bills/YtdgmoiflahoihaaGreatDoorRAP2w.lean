import Derived.Test.YtdgmoiflahoihaaGreatDoorRAFw
import Derived.Deep.Cut
import Derived.Deep.CutRange
import Derived.BigRegion
import Derived.Deep.RegionHeld3

namespace Go.Proofs.YtdgmoiflahoihaaGreatDoor
open Go.RowKit
set_option linter.unusedSimpArgs false
set_option linter.unusedVariables false
theorem StepAt.wider {b : Nat} {R S : Nat → Prop} {w w' : World} {s : SR} (h : StepAt b R w w' s) (hs : ∀ k, R k → S k) : StepAt b S w w' s :=
 ⟨h.state.weak (fun i hi _ _ => by rcases hi with hi | hi; exact .inl (hs i hi); exact .inr hi), ⟨h.onto.os, h.onto.tape, h.onto.output, h.onto.size, fun k hk hb hn => h.onto.block k hk hb (fun e => hn (hs k e))⟩⟩
theorem BookAt.low {w0 w : World} {b : Nat} {C : List UInt8} {A : List Int} (h : BookAt w0 b C A) (hb : Below w0.heap.size w0 w) :
  ∃ (ac aa : Option Addr) (bc ba capc capa : Nat), b < w0.heap.size ∧ w.cell? ⟨b, 0, none⟩ = some (.slice ac C.length capc) ∧ w.cell? ⟨b, 1, none⟩ = some (.slice aa C.length capa) ∧
   (∀ i, ∀ h : i < C.length, ac = some ⟨bc, 0, none⟩ ∧ bc < w0.heap.size ∧ w.cell? ⟨bc, i, none⟩ = some (.int .u8 C[i].toNat)) ∧
   (∀ i, ∀ h : i < A.length, aa = some ⟨ba, 0, none⟩ ∧ ba < w0.heap.size ∧ w.cell? ⟨ba, i, none⟩ = some (.int .i64 A[i])) := by
 obtain ⟨_, _, ac, aa, bc, ba, capc, capa, h0, h1, hc, ha⟩ := h
 have hbl : b < w0.heap.size := World.block_lt_of_cell? w0 _ h0
 refine ⟨ac, aa, bc, ba, capc, capa, hbl, (hb.cell (p := ⟨b, 0, none⟩) hbl).trans h0, (hb.cell (p := ⟨b, 1, none⟩) hbl).trans h1, fun i hi => ?_, fun i hi => ?_⟩
 ·obtain ⟨e, c⟩ := hc i hi
  have hl : bc < w0.heap.size := World.block_lt_of_cell? w0 _ c
  exact ⟨e, hl, (hb.cell (p := ⟨bc, i, none⟩) hl).trans c⟩
 ·obtain ⟨e, c⟩ := ha i hi
  have hl : ba < w0.heap.size := World.block_lt_of_cell? w0 _ c
  exact ⟨e, hl, (hb.cell (p := ⟨ba, i, none⟩) hl).trans c⟩
theorem rep_step {f : SR → Option SR} {n : Nat} {s s1 : SR} (h : repO f (n + 1) s = some s1) : ∃ s2, f s = some s2 ∧ repO f n s2 = some s1 := by
 unfold repO at h
 cases h1 : f s with
 | none => rw [h1] at h; simp at h
 | some s2 =>
  rw [h1] at h
  exact ⟨s2, rfl, h⟩
set_option maxRecDepth 100000 in
set_option maxHeartbeats 20000000 in
theorem play_any (b g : Nat) (C : List UInt8) (A : List Int) (w0 : World) (hB0 : BookAt w0 b C A) (hg0 : w0.heap.size ≤ g) : ∀ (F lo hi : Nat) (s s' : SR), playF C A F lo hi s = some s' → StOk s → s'.2.length ≤ 100000 → lo ≤ 500 → hi ≤ 500 → PlayGives b g w0 lo hi s s' := by
 intro F
 induction F using Nat.strongRecOn with
 | ind F ih =>
 intro lo hi s s' hp hs hl' hlo hhi S w hbw hS hSb
 have IH : Hid (∀ m, m < F → _) := ih
 clear ih
 have HB0 : Hid (BookAt w0 b C A) := hB0
 have HP : Hid (playF C A F lo hi s = some s') := hp
 have HS0 : Hid (StOk s) := hs
 have HST0 : Hid (StepAt g S w w s) := StepAt.still hS (Below.refl _ _)
 have HBW : Hid (Below w0.heap.size w0 w) := hbw
 have HSB : Hid (∀ k, S k → g < k) := hSb
 have hlt0 := hS.lt
 clear hp hs hbw hS hSb hB0
 go_enter Tryz.func46, Tryz.ntmps46
 go_wp2_with fail
 go_loopw [8] (fun x w' => ∃ (k f : Nat) (sk : SR), x = .int .i64 k ∧ k ≤ 500 ∧ f ≤ F ∧ Hid (playF C A f k hi sk = some s') ∧ Hid (StOk sk) ∧ Hid (StepAt g S w w' sk)) (fun x _ => 1000 - (intOf x).toNat)
 case atStart => exact ⟨lo, F, s, rfl, hlo, Nat.le_refl _, HP, HS0, HST0⟩
 case round =>
  obtain ⟨k, f, sk, rfl, hk, hf, HPK, HSK, HST⟩ := hrel
  by_cases hlt : k < hi
  ·have tk : decide ((k : Int) < (hi : Int)) = true := by simp; omega
   obtain ⟨f', o, e, t, s1, h0, h1, hfe, ho, he, ht, hpn, hcase⟩ := play_step HPK.out hlt
   have hBr : Below w0.heap.size w0 wr := onto_low HBW.out HST.out.onto hg0 HSB.out
   have HBR : Hid (Below w0.heap.size w0 wr) := hBr
   have hBk : BookAt wr b C A := HB0.out.below hBr
   have HBK : Hid (BookAt wr b C A) := hBk
   have hog := over_gt ho
   have hol := over_le ho
   have hC := hBk.small
   obtain ⟨b1, b2, b3, b4⟩ := blocks_le ht hC
   have HV : Hid (overC C k = some o) := ho
   have HT : Hid (blocksC C k = some t) := ht
   have HE : Hid (restC C k = some e) := he
   have HPN : Hid (playF C A f' o hi s1 = some s') := hpn
   obtain ⟨_, _, ac, aa, bc, ba, capc, capa, q0, q1, hc, ha⟩ := hBk
   obtain ⟨rfl, hck⟩ := hc k h0
   obtain ⟨rfl, hak⟩ := ha k h1
   have hz : w.heap.size ≤ wr.heap.size := HST.out.onto.size
   have HSB2 : Hid (∀ i, (S i ∨ w.heap.size ≤ i) → g < i) := fun i hi => by
    rcases hi with hi | hi
    ·exact HSB.out i hi
    ·omega
   rcases hcase with ⟨h42, h2, h48, hrep⟩ | ⟨h42, v, hv, hvh, hnm, ha0, hrule⟩
   ·obtain ⟨_, hcd⟩ := hc (k + 1) h2
    have hbd := C[k + 1].toNat_lt
    rw [h42] at hck
    have hck : wr.cell? ⟨bc, k, none⟩ = some (.int .u8 42) := hck
    generalize hdd : C[k + 1].toNat = d at *
    have HDD : Hid (C[k + 1].toNat = d) := hdd
    have HREP : Hid (repO (fun s => playF C A f' t.p t.q s) (d - 48) sk = some s1) := hrep
    have HBN : Hid (s1.2.length ≤ 100000) := by
     have h5 := rep_ok (play_ok C A f' t.p t.q) _ _ _ HSK.out hrep
     have h6 := play_ok C A f' o hi _ _ h5.1 hpn
     show _ ≤ _
     omega
    clear hc ha hrep hdd hpn ho he ht hBr
    go_wp2_with (first | (go_at_call 78; refine (blocks_any b k t C A _ HBK.out HT.out).mono ?_; rintro x1 w' ⟨rfl, hw1⟩; rw [hw1]; clear hw1))
    go_loopw [13] (fun x w' => ∃ (m : Nat) (sm : SR), x = .int .u8 (48 + m : Nat) ∧ 48 + m ≤ d ∧ Hid (repO (fun s => playF C A f' t.p t.q s) (d - 48 - m) sm = some s1) ∧ Hid (StOk sm) ∧ Hid (StepAt g S w w' sm)) (fun x _ => d - (intOf x).toNat)
    case atStart => exact ⟨0, sk, rfl, by omega, HREP, HSK, HST⟩
    case round =>
     obtain ⟨m, sm, rfl, hm, HRM, HSM, HSTM⟩ := hrel
     have hBi := onto_low HBW.out HSTM.out.onto hg0 HSB.out
     have HBI : Hid (BookAt wr b C A) := HB0.out.below hBi
     have HBD : Hid (Below w0.heap.size w0 wr) := hBi
     obtain ⟨_, _, ac, aa, bc', ba', capc', capa', r0, r1, hc', ha'⟩ := HBI.out
     obtain ⟨rfl, hcd'⟩ := hc' (k + 1) h2
     rw [HDD.out] at hcd'
     clear hc' ha' hBi
     by_cases hmd : 48 + m < d
     ·obtain ⟨j, hj⟩ : ∃ j, d - 48 - m = j + 1 := ⟨d - 48 - m - 1, by omega⟩
      have hrm := HRM.out
      rw [hj] at hrm
      obtain ⟨s2, hs2, hrm2⟩ := rep_step hrm
      have hpo := play_ok C A f' t.p t.q _ _ HSM.out hs2
      have hpo2 := rep_ok (play_ok C A f' t.p t.q) _ _ _ hpo.1 hrm2
      have HPC : Hid (∀ w' : World, _) := fun w' => IH.out f' (by omega) t.p t.q sm s2 hs2 HSM.out (by have := HBN.out; omega) b1 b2 (fun i => S i ∨ w.heap.size ≤ i) w'
      have HRM2 : Hid (repO (fun s => playF C A f' t.p t.q s) (d - 48 - (m + 1)) s2 = some s1) := by rw [show d - 48 - (m + 1) = j by omega]; exact hrm2
      have HS2 : Hid (StOk s2) := hpo.1
      have tm : decide (((48 + m : Nat) : Int) < (d : Int)) = true := by simp; omega
      clear hrm hs2 hrm2 hpo hpo2 HRM
      go_wp2_with (first | (go_at_call 46; refine (HPC.out _ HBD.out HSTM.out.state HSB2.out).mono ?_; rintro x1 w5 ⟨rfl, hs5⟩; have HS5 : Hid (StepAt g S w w5 s2) := HSTM.out.trans hs5; clear hs5))
      go_roundw
      case rel => exact ⟨m + 1, s2, by go_num, by omega, HRM2, HS2, HS5⟩
      case measure => simp [intOf]; omega
     ·have tm : decide (((48 + m : Nat) : Int) < (d : Int)) = false := by simp; omega
      have HS1 : Hid (sm = s1) := by
       have := HRM.out
       rw [show d - 48 - m = 0 by omega] at this
       show _ = _
       cases this
       rfl
      have HSO : Hid (StOk s1) := by have := HSM.out; rw [HS1.out] at this; exact this
      have HSS : Hid (StepAt g S w wr s1) := by have := HSTM.out; rw [HS1.out] at this; exact this
      go_wp2_with (first | (go_at_call 77; refine (over_any b k o C A _ HBI.out HV.out).mono ?_; rintro x1 w' ⟨rfl, hw1⟩; rw [hw1]; clear hw1))
      go_roundw
      case rel => exact ⟨o, f', s1, by go_num, by omega, by omega, HPN, HSO, HSS⟩
      case measure => simp [intOf]; omega
   ·obtain ⟨hvo, hvg⟩ := value_any b g C A sk.1 HSK.out.ok _ _ _ v hv hvh
    have HVG : Hid (ValGives b g C A sk.1 e.lo e.hi v) := hvg
    have hro := rule_ok (play_ok C A f' t.p t.q) (play_ok C A f' t.r t.s) (c := C[k]) (a := A[k]) (e := e) hvo _ _ HSK.out hrule
    have hpo := play_ok C A f' o hi _ _ hro.1 hpn
    have HSO : Hid (StOk s1) := hro.1
    have HBN : Hid (s1.2.length ≤ 100000) := by show _ ≤ _; omega
    have HRU : Hid (ruleO (fun s => playF C A f' t.p t.q s) (fun s => playF C A f' t.r t.s s) C[k] A[k] e v sk = some s1) := hrule
    have t42 : ((C[k].toNat : Int) == 42) = false := u8_ne (b := 42) h42
    have HGO : Hid (StOk (giveO e v sk, sk.2)) := give_ok HSK.out e hvo _
    have hbc : bc < wr.heap.size := World.block_lt_of_cell? wr _ hck
    have hba : ba < wr.heap.size := World.block_lt_of_cell? wr _ hak
    have hbb : b < wr.heap.size := World.block_lt_of_cell? wr _ q0
    generalize hcv : C[k] = c at *
    generalize hav : A[k] = av at *
    have HCK : Hid (C[k] = c) := hcv
    obtain ⟨pl, rfl⟩ : ∃ pl : Nat, av = pl := ⟨av.toNat, by omega⟩
    have HAK : Hid (A[k] = (pl : Int)) := hav
    obtain ⟨en, el, elo, ehi⟩ := e
    simp only at hnm hvh
    have HVV : Hid (VlOk v) := hvo
    obtain ⟨vn, vf⟩ := v
    clear hc ha hav hcv hrule hro hpo hpn ho he ht hBr hvg hv hvo h42 ha0
    go_upto_if 73 with (first | (go_at_call 78; refine (blocks_any b k t C A _ HBK.out HT.out).mono ?_; rintro x1 w' ⟨rfl, hw1⟩; rw [hw1]; clear hw1) | (go_at_call 79; refine (rest_any b k ⟨en, el, elo, ehi⟩ C A _ HBK.out HE.out).mono ?_; rintro x1 w' ⟨rfl, hw1⟩; rw [hw1]; clear hw1) | (go_at_call 80; refine (HVG.out _ HBK.out HST.out.state.vals).mono ?_; rintro x1 w5 ⟨rfl, hb5⟩; have HB5 : Hid (Below wr.heap.size wr w5) := hb5; clear hb5))
    have hz5 := HB5.out.size
    generalize hW : w5.alloc (.cells #[.int .i64 vn, .int .i64 vf] 59) = W
    have hBW5 : Below wr.heap.size wr W := by rw [← hW]; exact HB5.out.alloc hz5 _
    have y0 : W.cell? ⟨w5.heap.size, 0, none⟩ = some (.int .i64 vn) := by rw [← hW]; simp [go_sem]
    have y1 : W.cell? ⟨w5.heap.size, 1, none⟩ = some (.int .i64 vf) := by rw [← hW]; simp [go_sem]
    have hWs : W.heap.size = w5.heap.size + 1 := by rw [← hW]; simp
    have hSW : StateAt W g (fun k => S k ∨ w.heap.size ≤ k) sk := HST.out.state.keep hBW5 (Nat.le_refl _)
    have HSTW : Hid (StepAt g S w W sk) := HST.out.trans (StepAt.still hSW hBW5)
    have hglt : g < wr.heap.size := HST.out.state.lt
    have hne5 : ¬ g = w5.heap.size := by omega
    obtain ⟨vr, hvr, hor, hSS⟩ := HST.out.state.row
    have HVL : Hid (∀ q, vr.ownBlock = some q → q < w5.heap.size) := fun q hq => by have := (hor.lt q hq).2; omega
    have HVW : Hid (W.cell? ⟨g, 52, none⟩ = some vr) := (hBW5.cell (p := ⟨g, 52, none⟩) hglt).trans hvr
    clear hW HB5 hvr hor hSS
    go_cut [] from 73 to 79 (fun wx => Hid (StepAt g S w wx (giveO ⟨en, el, elo, ehi⟩ ⟨vn, vf⟩ sk, sk.2)) ∧ wx.cell? ⟨w5.heap.size, 0, none⟩ = some (.int .i64 vn) ∧ wx.cell? ⟨w5.heap.size, 1, none⟩ = some (.int .i64 vf) ∧ Hid (wx.cell? ⟨g, 52, none⟩ = some vr))
    case first =>
     by_cases hn0 : 0 ≤ en
     ·obtain ⟨nn, rfl⟩ : ∃ nn : Nat, en = nn := ⟨en.toNat, by omega⟩
      have hnn : nn < 26 := by omega
      obtain ⟨e0, e1⟩ := hSW.cell nn hnn
      have fz := hSW.fz
      have HG : Hid (giveO ⟨(nn : Int), el, elo, ehi⟩ ⟨vn, vf⟩ sk = sk.1.set nn ⟨vn, vf⟩) := by show _ = _; unfold giveO; rw [if_pos hn0]; rfl
      have HSW : Hid (StateAt W g (fun k => S k ∨ w.heap.size ≤ k) sk) := hSW
      have tn : decide ((0 : Int) ≤ (nn : Int)) = true := by simp
      rw [tn]
      clear hSW hBW5 tn
      go_wp2_with fail
      go_region
      all_goals (go_wp2_with fail; go_meet)
      all_goals rw [HG.out]
      all_goals refine ⟨⟨((HSW.out.set HSK.out.len nn hnn ⟨vn, vf⟩).drew), (((HSTW.out.onto).setCell _ _).setCell _ _).drew⟩, by simp [go_sem, y0, hne5], by simp [go_sem, y1, hne5], ?_⟩
      all_goals exact (show _ = _ by rw [← HVW.out]; simp [go_sem, show ¬ nn * 2 = 52 by omega, show ¬ nn * 2 + 1 = 52 by omega])
     ·have HG : Hid (giveO ⟨en, el, elo, ehi⟩ ⟨vn, vf⟩ sk = sk.1) := by show _ = _; unfold giveO; rw [if_neg hn0]
      have tn : decide ((0 : Int) ≤ en) = false := by simpa using hn0
      rw [tn]
      clear tn hBW5 hSW
      go_wp2_with fail
      go_meet
      rw [HG.out]
      exact ⟨HSTW.out, y0, y1, HVW⟩
    case rest =>
    obtain ⟨HSC, y0, y1, HVC⟩ := hcut
    clear hak hck q0 q1 HBK HBR HSTW HVW hbc hba hbb hWs hglt
    have hBc := onto_low HBW.out HSC.out.onto hg0 HSB.out
    have HBC : Hid (Below w0.heap.size w0 wc) := hBc
    obtain ⟨ac, aa, bc, ba, capc, capa, hbl0, q0, q1, hc, ha⟩ := HB0.out.low hBc
    obtain ⟨rfl, _, hck⟩ := hc k h0
    obtain ⟨rfl, hbal, hak⟩ := ha k h1
    rw [HCK.out] at hck
    rw [HAK.out] at hak
    have hgc : g < wc.heap.size := HSC.out.state.lt
    have fzc := HSC.out.state.fz
    obtain ⟨vr', hvr, hor, hSS⟩ := HSC.out.state.row
    have hvv : vr' = vr := by have := HVC.out; rw [hvr] at this; cases this; rfl
    subst hvv
    have HOW : Hid (wc.ownsRow (g + 1) 61 5 vr' sk.2.length (ntCells sk.2)) := hor
    have HSS : Hid (∀ k, vr'.ownBlock = some k → S k ∨ w.heap.size ≤ k) := hSS
    have hbb : b < wc.heap.size := World.block_lt_of_cell? wc _ q0
    have hba : ba < wc.heap.size := World.block_lt_of_cell? wc _ hak
    have hb5 : w5.heap.size < wc.heap.size := World.block_lt_of_cell? wc _ y0
    obtain ⟨iV, hiV, hzV, hsV, hbV⟩ := parts_of_info infoNote
    have HNB : Hid (vr'.ownBlock ≠ some b) := fun e => by have := HSB2.out b (HSS.out b e); omega
    have HNA : Hid (vr'.ownBlock ≠ some ba) := fun e => by have := HSB2.out ba (HSS.out ba e); omega
    have HN5 : Hid (vr'.ownBlock ≠ some w5.heap.size) := fun e => by have := HVL.out _ e; omega
    have hgb : b ≠ g := by omega
    have hgba : ba ≠ g := by omega
    have hg5 : w5.heap.size ≠ g := fun e => hne5 e.symm
    have HKP : Hid (∀ V : World, V.heap[b]? = wc.heap[b]? → V.heap[ba]? = wc.heap[ba]? → V.heap[w5.heap.size]? = wc.heap[w5.heap.size]? → V.cell? ⟨b, 1, none⟩ = some (.slice (some ⟨ba, 0, none⟩) C.length capa) ∧ V.cell? ⟨ba, k, none⟩ = some (.int .i64 pl) ∧ V.cell? ⟨w5.heap.size, 0, none⟩ = some (.int .i64 vn) ∧ V.cell? ⟨w5.heap.size, 1, none⟩ = some (.int .i64 vf)) := fun V e1 e2 e3 => ⟨(World.cell?_of_block (a := ⟨b, 1, none⟩) e1).trans q1, (World.cell?_of_block (a := ⟨ba, k, none⟩) e2).trans hak, (World.cell?_of_block (a := ⟨w5.heap.size, 0, none⟩) e3).trans y0, (World.cell?_of_block (a := ⟨w5.heap.size, 1, none⟩) e3).trans y1⟩
    have ik0 : (0 : Int) ≤ (k : Int) := by omega
    have ik1 : (k : Int) < (C.length : Int) := by omega
    clear hc ha hBc hor hSS HVC
    by_cases h62 : c = 62
    ·subst h62
     have hru := HRU.out
     unfold ruleO at hru
     rw [if_pos rfl] at hru
     split at hru
     case isFalse => cases hru
     rename_i hl0
     simp only at hl0
     obtain ⟨ll, rfl⟩ : ∃ ll : Nat, el = ll := ⟨el.toNat, by omega⟩
     simp only [Option.some.injEq, Int.toNat_natCast] at hru
     have hlen : sk.2.length ≤ 100000 := by have := HBN.out; rw [← hru] at this; simp at this; omega
     have HS1 : Hid _ := hru
     clear hru HRU hl0
     go_upto_region 15 with fail
     refine wp_region_held_drew (S := fun w' => w'.cell? ⟨b, 1, none⟩ = some (.slice (some ⟨ba, 0, none⟩) C.length capa) ∧ w'.cell? ⟨ba, k, none⟩ = some (.int .i64 pl) ∧ w'.cell? ⟨w5.heap.size, 0, none⟩ = some (.int .i64 vn) ∧ w'.cell? ⟨w5.heap.size, 1, none⟩ = some (.int .i64 vf)) (by kernel_rfl) (HKP.out _ rfl rfl rfl) (fun hHeld => ?_)
     refine wpAnyH_take (i := 0) (v := ?v0n0) rfl (by kernel_rfl) (by kernel_rfl) (by kernel_rfl) (fun _ _ _ h => h) (Or.inl ⟨by rfl, ?hy0n0⟩) (by assumption) ?rest0n0
     case hy0n0 => (intro w hSw; (try dsimp only at hSw); go_simp; (try with_reducible rfl))
     simp only [Act.put, List.setIfInBounds_toArray, List.set_cons_zero, List.set_cons_succ, List.getElem_toArray, List.getElem_cons_zero, List.getElem_cons_succ]
     refine wpAnyH_take (i := 1) (v := ?v1n0) rfl (by kernel_rfl) (by kernel_rfl) (by kernel_rfl) (fun _ _ _ h => h) (Or.inl ⟨by rfl, ?hy1n0⟩) (by assumption) ?rest1n0
     case hy1n0 => (intro w hSw; (try dsimp only at hSw); go_simp; (try with_reducible rfl))
     simp only [Act.put, List.setIfInBounds_toArray, List.set_cons_zero, List.set_cons_succ, List.getElem_toArray, List.getElem_cons_zero, List.getElem_cons_succ]
     refine wpAnyH_take (i := 2) (v := ?v2n0) rfl (by kernel_rfl) (by kernel_rfl) (by kernel_rfl) (fun _ _ _ h => h) (Or.inl ⟨by rfl, ?hy2n0⟩) (by assumption) ?rest2n0
     case hy2n0 => (intro w hSw; (try dsimp only at hSw); go_simp; (try with_reducible rfl))
     simp only [Act.put, List.setIfInBounds_toArray, List.set_cons_zero, List.set_cons_succ, List.getElem_toArray, List.getElem_cons_zero, List.getElem_cons_succ]
     refine wpAnyH_take (i := 3) (v := ?v3n0) rfl (by kernel_rfl) (by kernel_rfl) (by kernel_rfl) (fun _ _ _ h => h) (Or.inl ⟨by rfl, ?hy3n0⟩) (by assumption) ?rest3n0
     case hy3n0 => (intro w hSw; (try dsimp only at hSw); go_simp; (try with_reducible rfl))
     simp only [Act.put, List.setIfInBounds_toArray, List.set_cons_zero, List.set_cons_succ, List.getElem_toArray, List.getElem_cons_zero, List.getElem_cons_succ]
     refine wpAnyH_take (i := 5) (v := ?v5n0) rfl (by kernel_rfl) (by kernel_rfl) (by kernel_rfl) (fun _ _ _ h => h) (Or.inl ⟨by rfl, ?hy5n0⟩) (by assumption) ?rest5n0
     case hy5n0 => (intro w hSw; (try dsimp only at hSw); go_simp; (try with_reducible rfl))
     simp only [Act.put, List.setIfInBounds_toArray, List.set_cons_zero, List.set_cons_succ, List.getElem_toArray, List.getElem_cons_zero, List.getElem_cons_succ]
     refine wpAnyH_take (i := 6) (v := ?v6n0) rfl (by kernel_rfl) (by kernel_rfl) (by kernel_rfl) (fun _ _ _ h => h) (Or.inl ⟨by rfl, ?hy6n0⟩) (by assumption) ?rest6n0
     case hy6n0 => (intro w hSw; (try dsimp only at hSw); go_simp; (try with_reducible rfl))
     simp only [Act.put, List.setIfInBounds_toArray, List.set_cons_zero, List.set_cons_succ, List.getElem_toArray, List.getElem_cons_zero, List.getElem_cons_succ]
     refine wpAnyH_take (i := 7) (v := ?v7n0) rfl (by kernel_rfl) (by kernel_rfl) (by kernel_rfl) (fun _ _ _ h => h) (Or.inl ⟨by rfl, ?hy7n0⟩) (by assumption) ?rest7n0
     case hy7n0 => (intro w hSw; (try dsimp only at hSw); go_simp; (try with_reducible rfl))
     simp only [Act.put, List.setIfInBounds_toArray, List.set_cons_zero, List.set_cons_succ, List.getElem_toArray, List.getElem_cons_zero, List.getElem_cons_succ]
     refine wpAnyH_take (i := 8) (v := ?v8n0) rfl (by kernel_rfl) (by kernel_rfl) (by kernel_rfl) (fun _ _ _ h => h) (Or.inl ⟨by rfl, ?hy8n0⟩) (by assumption) ?rest8n0
     case hy8n0 => (intro w hSw; (try dsimp only at hSw); go_simp; (try with_reducible rfl))
     simp only [Act.put, List.setIfInBounds_toArray, List.set_cons_zero, List.set_cons_succ, List.getElem_toArray, List.getElem_cons_zero, List.getElem_cons_succ]
     refine wpAnyH_take (i := 9) (v := ?v9n0) rfl (by kernel_rfl) (by kernel_rfl) (by kernel_rfl) (fun _ _ _ h => h) (Or.inl ⟨by rfl, ?hy9n0⟩) (by assumption) ?rest9n0
     case hy9n0 => (intro w hSw; (try dsimp only at hSw); go_simp; (try with_reducible rfl))
     simp only [Act.put, List.setIfInBounds_toArray, List.set_cons_zero, List.set_cons_succ, List.getElem_toArray, List.getElem_cons_zero, List.getElem_cons_succ]
     refine wpAnyH_take (i := 10) (v := ?v10n0) rfl (by kernel_rfl) (by kernel_rfl) (by kernel_rfl) (fun _ _ _ h => h) (Or.inl ⟨by rfl, ?hy10n0⟩) (by assumption) ?rest10n0
     case hy10n0 => (intro w hSw; (try dsimp only at hSw); go_simp; (try with_reducible rfl))
     simp only [Act.put, List.setIfInBounds_toArray, List.set_cons_zero, List.set_cons_succ, List.getElem_toArray, List.getElem_cons_zero, List.getElem_cons_succ]
     refine wpAnyH_take (i := 11) (v := ?v11n0) rfl (by kernel_rfl) (by kernel_rfl) (by kernel_rfl) (fun _ _ _ h => h) (Or.inl ⟨by rfl, ?hy11n0⟩) (by assumption) ?rest11n0
     case hy11n0 => (intro w hSw; (try dsimp only at hSw); go_simp; (try with_reducible rfl))
     simp only [Act.put, List.setIfInBounds_toArray, List.set_cons_zero, List.set_cons_succ, List.getElem_toArray, List.getElem_cons_zero, List.getElem_cons_succ]
     refine wpAnyH_take (i := 12) (v := ?v12n0) rfl (by kernel_rfl) (by kernel_rfl) (by kernel_rfl) (fun _ _ _ h => h) (Or.inl ⟨by rfl, ?hy12n0⟩) (by assumption) ?rest12n0
     case hy12n0 => (intro w hSw; (try dsimp only at hSw); go_simp; (try with_reducible rfl))
     simp only [Act.put, List.setIfInBounds_toArray, List.set_cons_zero, List.set_cons_succ, List.getElem_toArray, List.getElem_cons_zero, List.getElem_cons_succ]
     refine wpAnyH_take (i := 13) (v := ?v13n0) rfl (by kernel_rfl) (by kernel_rfl) (by kernel_rfl) (fun _ _ _ h => h) (Or.inl ⟨by rfl, ?hy13n0⟩) (by assumption) ?rest13n0
     case hy13n0 => (intro w hSw; (try dsimp only at hSw); go_simp; (try with_reducible rfl))
     simp only [Act.put, List.setIfInBounds_toArray, List.set_cons_zero, List.set_cons_succ, List.getElem_toArray, List.getElem_cons_zero, List.getElem_cons_succ]
     refine wpAnyH_take (i := 14) (v := ?v14n0) rfl (by kernel_rfl) (by kernel_rfl) (by kernel_rfl) (fun _ _ _ h => h) (Or.inl ⟨by rfl, ?hy14n0⟩) (by assumption) ?rest14n0
     case hy14n0 => (intro w hSw; (try dsimp only at hSw); go_simp; (try with_reducible rfl))
     simp only [Act.put, List.setIfInBounds_toArray, List.set_cons_zero, List.set_cons_succ, List.getElem_toArray, List.getElem_cons_zero, List.getElem_cons_succ]
     refine wpAnyH_ready (rs := [4, 15]) (by kernel_rfl) (by simp) ?_
     refine AllReadyH.cons rfl (fun K hK => ?_) (AllReadyH.cons rfl (fun K hK => ?_) AllReadyH.nil)
     ·go_simp
      refine hK.out _ _ (HKP.out _ rfl rfl rfl) (fun hHeld => ?_)
      clear hK K
      try simp only [Act.put, List.setIfInBounds_toArray, List.set_cons_zero, List.set_cons_succ, List.getElem_toArray, List.getElem_cons_zero, List.getElem_cons_succ]
      refine wpAnyH_ready (rs := [15]) (by kernel_rfl) (by simp) ?_
      refine AllReadyH.cons rfl (fun K hK => ?_) AllReadyH.nil
      go_simp
      refine hK.out _ _ (HKP.out _ (Below.heap_alloc _ _ _ hbb) (Below.heap_alloc _ _ _ hba) (Below.heap_alloc _ _ _ hb5)) (fun hHeld => ?_)
      clear hK K
      try simp only [Act.put, List.setIfInBounds_toArray, List.set_cons_zero, List.set_cons_succ, List.getElem_toArray, List.getElem_cons_zero, List.getElem_cons_succ]
      refine wpAnyH_ready (rs := [16]) (by kernel_rfl) (by simp) ?_
      refine AllReadyH.cons rfl (fun K hK => ?_) AllReadyH.nil
      refine rv_append2 rfl (.tmp 93) (.tmp 104) 51 rfl (g + 1) 61 iV (.agg #[.int .i64 0, .int .i64 0, .int .i64 0, .int .i64 0, .int .i64 0]) 5 40 Tryz.underlying51 hiV hzV hsV hbV rfl (by decide) vr' sk.2.length (ntCells sk.2) (by simp [Act.eval, Act.put]) (by exact (HOW.out.alloc _).drew) ⟨wc.heap.size, 0, none⟩ 1 1 (ntCell ⟨0, pl, ll, ⟨vn, vf⟩⟩) (by simp [Act.eval, Act.put]) rfl (by exact nt_new wc ⟨0, pl, ll, ⟨vn, vf⟩⟩ 61) (by intro q hq; simp [ntCell] at hq; rcases hq with rfl | rfl | rfl | rfl | rfl <;> rfl) (by unfold maxLen; omega) (by omega) (by simp; omega) (by decide) ?_
      intro v' w2 hown hgrow hfr
      have hk := state_grown HSC.out.state hvr HOW.out HSS.out (W := (wc.alloc (.cells #[.int .i64 0, .int .i64 pl, .int .i64 ll, .int .i64 vn, .int .i64 vf] 61)).drew) (((Below.refl _ _).alloc (Nat.le_refl _) _).drew) hgrow
      have q0' : w2.cell? ⟨g, 52, none⟩ = some vr' := (World.cell?_of_block (a := ⟨g, 52, none⟩) hk.1).trans hvr
      have q1' : ∀ o, w2.frozen? ⟨g, o, none⟩ = false := (fun o => (World.frozen?_of_block (a := ⟨g, o, none⟩) hk.1).trans (fzc o))
      obtain ⟨gn, capn, rfl⟩ := Joins.ownsRow_form hown (by omega)
      have HSX : Hid (StepAt g S w (w2.setCell ⟨g, 52, none⟩ (.slice (some ⟨gn, 0, none⟩) (sk.2.length + 1) capn)) s1) := by
       rw [← HS1.out]
       exact HSC.out.trans ⟨state_more HSC.out.state HSS.out (by simp) hk.1 hown hfr, hk.2.setCell _ _⟩
      have hw2 : ∀ q, q < wc.heap.size → vr'.ownBlock ≠ some q → w2.heap[q]? = wc.heap[q]? := fun q hq hne => (hgrow.block q (by simp; omega) (fun e => hne e.symm)).trans (Below.heap_alloc _ _ _ hq)
      refine hK.out _ _ (HKP.out _ (hw2 b hbb HNB.out) (hw2 ba hba HNA.out) (hw2 _ hb5 HN5.out)) (fun hHeld => ?_)
      clear hK K
      try simp only [Act.put, List.setIfInBounds_toArray, List.set_cons_zero, List.set_cons_succ, List.getElem_toArray, List.getElem_cons_zero, List.getElem_cons_succ]
      refine wpAnyH_take (i := 17) (v := ?v17p0) rfl (by kernel_rfl) (by kernel_rfl) (by kernel_rfl) (fun _ _ _ h => h) (Or.inl ⟨by rfl, ?hy17p0⟩) (by assumption) ?rest17p0
      case hy17p0 => (intro w hSw; (try dsimp only at hSw); go_simp; (try with_reducible rfl))
      simp only [Act.put, List.setIfInBounds_toArray, List.set_cons_zero, List.set_cons_succ, List.getElem_toArray, List.getElem_cons_zero, List.getElem_cons_succ]
      refine wpAnyH_take (i := 18) (v := ?v18p0) rfl (by kernel_rfl) (by kernel_rfl) (by kernel_rfl) (fun _ _ _ h => h) (Or.inl ⟨by rfl, ?hy18p0⟩) (by assumption) ?rest18p0
      case hy18p0 => (intro w hSw; (try dsimp only at hSw); go_simp; (try with_reducible rfl))
      simp only [Act.put, List.setIfInBounds_toArray, List.set_cons_zero, List.set_cons_succ, List.getElem_toArray, List.getElem_cons_zero, List.getElem_cons_succ]
      refine wpAnyH_ready (rs := [19]) (by kernel_rfl) (by simp) ?_
      refine AllReadyH.cons rfl (fun K hK => ?_) AllReadyH.nil
      go_simp
      refine hK.out _ _ (HKP.out _ ((Below.heap_setCell _ _ _ _ hgb).trans (hw2 b hbb HNB.out)) ((Below.heap_setCell _ _ _ _ hgba).trans (hw2 ba hba HNA.out)) ((Below.heap_setCell _ _ _ _ hg5).trans (hw2 _ hb5 HN5.out))) (fun hHeld => ?_)
      clear hK K hw2 hk hgrow hfr hown
      try simp only [Act.put, List.setIfInBounds_toArray, List.set_cons_zero, List.set_cons_succ, List.getElem_toArray, List.getElem_cons_zero, List.getElem_cons_succ]
      refine wpAnyH_done (by kernel_rfl) ?_ _
      (go_wp2_with (first | (go_at_call 77; refine (over_any b k o C A _ (HB0.out.below (onto_low HBW.out HSX.out.onto hg0 HSB.out)) HV.out).mono ?_; rintro x1 w' ⟨rfl, hw1⟩; rw [hw1]; clear hw1)); go_roundw; (case rel => exact ⟨o, f', s1, by go_num, by omega, by omega, HPN, HSO, HSX⟩); (case measure => simp [intOf]; omega))
     ·go_simp
      refine hK.out _ _ (HKP.out _ (Below.heap_alloc _ _ _ hbb) (Below.heap_alloc _ _ _ hba) (Below.heap_alloc _ _ _ hb5)) (fun hHeld => ?_)
      clear hK K
      try simp only [Act.put, List.setIfInBounds_toArray, List.set_cons_zero, List.set_cons_succ, List.getElem_toArray, List.getElem_cons_zero, List.getElem_cons_succ]
      refine wpAnyH_ready (rs := [4]) (by kernel_rfl) (by simp) ?_
      refine AllReadyH.cons rfl (fun K hK => ?_) AllReadyH.nil
      go_simp
      refine hK.out _ _ (HKP.out _ (Below.heap_alloc _ _ _ hbb) (Below.heap_alloc _ _ _ hba) (Below.heap_alloc _ _ _ hb5)) (fun hHeld => ?_)
      clear hK K
      try simp only [Act.put, List.setIfInBounds_toArray, List.set_cons_zero, List.set_cons_succ, List.getElem_toArray, List.getElem_cons_zero, List.getElem_cons_succ]
      refine wpAnyH_ready (rs := [16]) (by kernel_rfl) (by simp) ?_
      refine AllReadyH.cons rfl (fun K hK => ?_) AllReadyH.nil
      refine rv_append2 rfl (.tmp 93) (.tmp 104) 51 rfl (g + 1) 61 iV (.agg #[.int .i64 0, .int .i64 0, .int .i64 0, .int .i64 0, .int .i64 0]) 5 40 Tryz.underlying51 hiV hzV hsV hbV rfl (by decide) vr' sk.2.length (ntCells sk.2) (by simp [Act.eval, Act.put]) (by exact (HOW.out.alloc _).drew) ⟨wc.heap.size, 0, none⟩ 1 1 (ntCell ⟨0, pl, ll, ⟨vn, vf⟩⟩) (by simp [Act.eval, Act.put]) rfl (by exact nt_new wc ⟨0, pl, ll, ⟨vn, vf⟩⟩ 61) (by intro q hq; simp [ntCell] at hq; rcases hq with rfl | rfl | rfl | rfl | rfl <;> rfl) (by unfold maxLen; omega) (by omega) (by simp; omega) (by decide) ?_
      intro v' w2 hown hgrow hfr
      have hk := state_grown HSC.out.state hvr HOW.out HSS.out (W := (wc.alloc (.cells #[.int .i64 0, .int .i64 pl, .int .i64 ll, .int .i64 vn, .int .i64 vf] 61)).drew) (((Below.refl _ _).alloc (Nat.le_refl _) _).drew) hgrow
      have q0' : w2.cell? ⟨g, 52, none⟩ = some vr' := (World.cell?_of_block (a := ⟨g, 52, none⟩) hk.1).trans hvr
      have q1' : ∀ o, w2.frozen? ⟨g, o, none⟩ = false := (fun o => (World.frozen?_of_block (a := ⟨g, o, none⟩) hk.1).trans (fzc o))
      obtain ⟨gn, capn, rfl⟩ := Joins.ownsRow_form hown (by omega)
      have HSX : Hid (StepAt g S w (w2.setCell ⟨g, 52, none⟩ (.slice (some ⟨gn, 0, none⟩) (sk.2.length + 1) capn)) s1) := by
       rw [← HS1.out]
       exact HSC.out.trans ⟨state_more HSC.out.state HSS.out (by simp) hk.1 hown hfr, hk.2.setCell _ _⟩
      have hw2 : ∀ q, q < wc.heap.size → vr'.ownBlock ≠ some q → w2.heap[q]? = wc.heap[q]? := fun q hq hne => (hgrow.block q (by simp; omega) (fun e => hne e.symm)).trans (Below.heap_alloc _ _ _ hq)
      refine hK.out _ _ (HKP.out _ (hw2 b hbb HNB.out) (hw2 ba hba HNA.out) (hw2 _ hb5 HN5.out)) (fun hHeld => ?_)
      clear hK K
      try simp only [Act.put, List.setIfInBounds_toArray, List.set_cons_zero, List.set_cons_succ, List.getElem_toArray, List.getElem_cons_zero, List.getElem_cons_succ]
      refine wpAnyH_take (i := 17) (v := ?v17q0) rfl (by kernel_rfl) (by kernel_rfl) (by kernel_rfl) (fun _ _ _ h => h) (Or.inl ⟨by rfl, ?hy17q0⟩) (by assumption) ?rest17q0
      case hy17q0 => (intro w hSw; (try dsimp only at hSw); go_simp; (try with_reducible rfl))
      simp only [Act.put, List.setIfInBounds_toArray, List.set_cons_zero, List.set_cons_succ, List.getElem_toArray, List.getElem_cons_zero, List.getElem_cons_succ]
      refine wpAnyH_take (i := 18) (v := ?v18q0) rfl (by kernel_rfl) (by kernel_rfl) (by kernel_rfl) (fun _ _ _ h => h) (Or.inl ⟨by rfl, ?hy18q0⟩) (by assumption) ?rest18q0
      case hy18q0 => (intro w hSw; (try dsimp only at hSw); go_simp; (try with_reducible rfl))
      simp only [Act.put, List.setIfInBounds_toArray, List.set_cons_zero, List.set_cons_succ, List.getElem_toArray, List.getElem_cons_zero, List.getElem_cons_succ]
      refine wpAnyH_ready (rs := [19]) (by kernel_rfl) (by simp) ?_
      refine AllReadyH.cons rfl (fun K hK => ?_) AllReadyH.nil
      go_simp
      refine hK.out _ _ (HKP.out _ ((Below.heap_setCell _ _ _ _ hgb).trans (hw2 b hbb HNB.out)) ((Below.heap_setCell _ _ _ _ hgba).trans (hw2 ba hba HNA.out)) ((Below.heap_setCell _ _ _ _ hg5).trans (hw2 _ hb5 HN5.out))) (fun hHeld => ?_)
      clear hK K hw2 hk hgrow hfr hown
      try simp only [Act.put, List.setIfInBounds_toArray, List.set_cons_zero, List.set_cons_succ, List.getElem_toArray, List.getElem_cons_zero, List.getElem_cons_succ]
      refine wpAnyH_done (by kernel_rfl) ?_ _
      (go_wp2_with (first | (go_at_call 77; refine (over_any b k o C A _ (HB0.out.below (onto_low HBW.out HSX.out.onto hg0 HSB.out)) HV.out).mono ?_; rintro x1 w' ⟨rfl, hw1⟩; rw [hw1]; clear hw1)); go_roundw; (case rel => exact ⟨o, f', s1, by go_num, by omega, by omega, HPN, HSO, HSX⟩); (case measure => simp [intOf]; omega))
    have t62 : ((c.toNat : Int) == 62) = false := u8_ne (b := 62) h62
    by_cases h94 : c = 94
    ·subst h94
     have hru := HRU.out
     unfold ruleO at hru
     rw [if_neg (by decide), if_pos rfl] at hru
     split at hru
     case isFalse => cases hru
     rename_i hl0
     simp only at hl0
     obtain ⟨ll, rfl⟩ : ∃ ll : Nat, el = ll := ⟨el.toNat, by omega⟩
     simp only [Option.some.injEq, Int.toNat_natCast] at hru
     have hlen : sk.2.length ≤ 100000 := by have := HBN.out; rw [← hru] at this; simp at this; omega
     have HS1 : Hid _ := hru
     clear hru HRU hl0 t62 h62
     go_upto_region 17 with fail
     refine wp_region_held_drew (S := fun w' => w'.cell? ⟨b, 1, none⟩ = some (.slice (some ⟨ba, 0, none⟩) C.length capa) ∧ w'.cell? ⟨ba, k, none⟩ = some (.int .i64 pl) ∧ w'.cell? ⟨w5.heap.size, 0, none⟩ = some (.int .i64 vn) ∧ w'.cell? ⟨w5.heap.size, 1, none⟩ = some (.int .i64 vf)) (by kernel_rfl) (HKP.out _ rfl rfl rfl) (fun hHeld => ?_)
     refine wpAnyH_take (i := 0) (v := ?v0n1) rfl (by kernel_rfl) (by kernel_rfl) (by kernel_rfl) (fun _ _ _ h => h) (Or.inl ⟨by rfl, ?hy0n1⟩) (by assumption) ?rest0n1
     case hy0n1 => (intro w hSw; (try dsimp only at hSw); go_simp; (try with_reducible rfl))
     simp only [Act.put, List.setIfInBounds_toArray, List.set_cons_zero, List.set_cons_succ, List.getElem_toArray, List.getElem_cons_zero, List.getElem_cons_succ]
     refine wpAnyH_take (i := 1) (v := ?v1n1) rfl (by kernel_rfl) (by kernel_rfl) (by kernel_rfl) (fun _ _ _ h => h) (Or.inl ⟨by rfl, ?hy1n1⟩) (by assumption) ?rest1n1
     case hy1n1 => (intro w hSw; (try dsimp only at hSw); go_simp; (try with_reducible rfl))
     simp only [Act.put, List.setIfInBounds_toArray, List.set_cons_zero, List.set_cons_succ, List.getElem_toArray, List.getElem_cons_zero, List.getElem_cons_succ]
     refine wpAnyH_take (i := 2) (v := ?v2n1) rfl (by kernel_rfl) (by kernel_rfl) (by kernel_rfl) (fun _ _ _ h => h) (Or.inl ⟨by rfl, ?hy2n1⟩) (by assumption) ?rest2n1
     case hy2n1 => (intro w hSw; (try dsimp only at hSw); go_simp; (try with_reducible rfl))
     simp only [Act.put, List.setIfInBounds_toArray, List.set_cons_zero, List.set_cons_succ, List.getElem_toArray, List.getElem_cons_zero, List.getElem_cons_succ]
     refine wpAnyH_take (i := 3) (v := ?v3n1) rfl (by kernel_rfl) (by kernel_rfl) (by kernel_rfl) (fun _ _ _ h => h) (Or.inl ⟨by rfl, ?hy3n1⟩) (by assumption) ?rest3n1
     case hy3n1 => (intro w hSw; (try dsimp only at hSw); go_simp; (try with_reducible rfl))
     simp only [Act.put, List.setIfInBounds_toArray, List.set_cons_zero, List.set_cons_succ, List.getElem_toArray, List.getElem_cons_zero, List.getElem_cons_succ]
     refine wpAnyH_take (i := 5) (v := ?v5n1) rfl (by kernel_rfl) (by kernel_rfl) (by kernel_rfl) (fun _ _ _ h => h) (Or.inl ⟨by rfl, ?hy5n1⟩) (by assumption) ?rest5n1
     case hy5n1 => (intro w hSw; (try dsimp only at hSw); go_simp; (try with_reducible rfl))
     simp only [Act.put, List.setIfInBounds_toArray, List.set_cons_zero, List.set_cons_succ, List.getElem_toArray, List.getElem_cons_zero, List.getElem_cons_succ]
     refine wpAnyH_take (i := 6) (v := ?v6n1) rfl (by kernel_rfl) (by kernel_rfl) (by kernel_rfl) (fun _ _ _ h => h) (Or.inl ⟨by rfl, ?hy6n1⟩) (by assumption) ?rest6n1
     case hy6n1 => (intro w hSw; (try dsimp only at hSw); go_simp; (try with_reducible rfl))
     simp only [Act.put, List.setIfInBounds_toArray, List.set_cons_zero, List.set_cons_succ, List.getElem_toArray, List.getElem_cons_zero, List.getElem_cons_succ]
     refine wpAnyH_take (i := 7) (v := ?v7n1) rfl (by kernel_rfl) (by kernel_rfl) (by kernel_rfl) (fun _ _ _ h => h) (Or.inl ⟨by rfl, ?hy7n1⟩) (by assumption) ?rest7n1
     case hy7n1 => (intro w hSw; (try dsimp only at hSw); go_simp; (try with_reducible rfl))
     simp only [Act.put, List.setIfInBounds_toArray, List.set_cons_zero, List.set_cons_succ, List.getElem_toArray, List.getElem_cons_zero, List.getElem_cons_succ]
     refine wpAnyH_take (i := 8) (v := ?v8n1) rfl (by kernel_rfl) (by kernel_rfl) (by kernel_rfl) (fun _ _ _ h => h) (Or.inl ⟨by rfl, ?hy8n1⟩) (by assumption) ?rest8n1
     case hy8n1 => (intro w hSw; (try dsimp only at hSw); go_simp; (try with_reducible rfl))
     simp only [Act.put, List.setIfInBounds_toArray, List.set_cons_zero, List.set_cons_succ, List.getElem_toArray, List.getElem_cons_zero, List.getElem_cons_succ]
     refine wpAnyH_take (i := 9) (v := ?v9n1) rfl (by kernel_rfl) (by kernel_rfl) (by kernel_rfl) (fun _ _ _ h => h) (Or.inl ⟨by rfl, ?hy9n1⟩) (by assumption) ?rest9n1
     case hy9n1 => (intro w hSw; (try dsimp only at hSw); go_simp; (try with_reducible rfl))
     simp only [Act.put, List.setIfInBounds_toArray, List.set_cons_zero, List.set_cons_succ, List.getElem_toArray, List.getElem_cons_zero, List.getElem_cons_succ]
     refine wpAnyH_take (i := 10) (v := ?v10n1) rfl (by kernel_rfl) (by kernel_rfl) (by kernel_rfl) (fun _ _ _ h => h) (Or.inl ⟨by rfl, ?hy10n1⟩) (by assumption) ?rest10n1
     case hy10n1 => (intro w hSw; (try dsimp only at hSw); go_simp; (try with_reducible rfl))
     simp only [Act.put, List.setIfInBounds_toArray, List.set_cons_zero, List.set_cons_succ, List.getElem_toArray, List.getElem_cons_zero, List.getElem_cons_succ]
     refine wpAnyH_take (i := 11) (v := ?v11n1) rfl (by kernel_rfl) (by kernel_rfl) (by kernel_rfl) (fun _ _ _ h => h) (Or.inl ⟨by rfl, ?hy11n1⟩) (by assumption) ?rest11n1
     case hy11n1 => (intro w hSw; (try dsimp only at hSw); go_simp; (try with_reducible rfl))
     simp only [Act.put, List.setIfInBounds_toArray, List.set_cons_zero, List.set_cons_succ, List.getElem_toArray, List.getElem_cons_zero, List.getElem_cons_succ]
     refine wpAnyH_take (i := 12) (v := ?v12n1) rfl (by kernel_rfl) (by kernel_rfl) (by kernel_rfl) (fun _ _ _ h => h) (Or.inl ⟨by rfl, ?hy12n1⟩) (by assumption) ?rest12n1
     case hy12n1 => (intro w hSw; (try dsimp only at hSw); go_simp; (try with_reducible rfl))
     simp only [Act.put, List.setIfInBounds_toArray, List.set_cons_zero, List.set_cons_succ, List.getElem_toArray, List.getElem_cons_zero, List.getElem_cons_succ]
     refine wpAnyH_take (i := 13) (v := ?v13n1) rfl (by kernel_rfl) (by kernel_rfl) (by kernel_rfl) (fun _ _ _ h => h) (Or.inl ⟨by rfl, ?hy13n1⟩) (by assumption) ?rest13n1
     case hy13n1 => (intro w hSw; (try dsimp only at hSw); go_simp; (try with_reducible rfl))
     simp only [Act.put, List.setIfInBounds_toArray, List.set_cons_zero, List.set_cons_succ, List.getElem_toArray, List.getElem_cons_zero, List.getElem_cons_succ]
     refine wpAnyH_take (i := 14) (v := ?v14n1) rfl (by kernel_rfl) (by kernel_rfl) (by kernel_rfl) (fun _ _ _ h => h) (Or.inl ⟨by rfl, ?hy14n1⟩) (by assumption) ?rest14n1
     case hy14n1 => (intro w hSw; (try dsimp only at hSw); go_simp; (try with_reducible rfl))
     simp only [Act.put, List.setIfInBounds_toArray, List.set_cons_zero, List.set_cons_succ, List.getElem_toArray, List.getElem_cons_zero, List.getElem_cons_succ]
     refine wpAnyH_ready (rs := [4, 15]) (by kernel_rfl) (by simp) ?_
     refine AllReadyH.cons rfl (fun K hK => ?_) (AllReadyH.cons rfl (fun K hK => ?_) AllReadyH.nil)
     ·go_simp
      refine hK.out _ _ (HKP.out _ rfl rfl rfl) (fun hHeld => ?_)
      clear hK K
      try simp only [Act.put, List.setIfInBounds_toArray, List.set_cons_zero, List.set_cons_succ, List.getElem_toArray, List.getElem_cons_zero, List.getElem_cons_succ]
      refine wpAnyH_ready (rs := [15]) (by kernel_rfl) (by simp) ?_
      refine AllReadyH.cons rfl (fun K hK => ?_) AllReadyH.nil
      go_simp
      refine hK.out _ _ (HKP.out _ (Below.heap_alloc _ _ _ hbb) (Below.heap_alloc _ _ _ hba) (Below.heap_alloc _ _ _ hb5)) (fun hHeld => ?_)
      clear hK K
      try simp only [Act.put, List.setIfInBounds_toArray, List.set_cons_zero, List.set_cons_succ, List.getElem_toArray, List.getElem_cons_zero, List.getElem_cons_succ]
      refine wpAnyH_ready (rs := [16]) (by kernel_rfl) (by simp) ?_
      refine AllReadyH.cons rfl (fun K hK => ?_) AllReadyH.nil
      refine rv_append2 rfl (.tmp 114) (.tmp 125) 51 rfl (g + 1) 61 iV (.agg #[.int .i64 0, .int .i64 0, .int .i64 0, .int .i64 0, .int .i64 0]) 5 40 Tryz.underlying51 hiV hzV hsV hbV rfl (by decide) vr' sk.2.length (ntCells sk.2) (by simp [Act.eval, Act.put]) (by exact (HOW.out.alloc _).drew) ⟨wc.heap.size, 0, none⟩ 1 1 (ntCell ⟨1, pl, ll, ⟨vn, vf⟩⟩) (by simp [Act.eval, Act.put]) rfl (by exact nt_new wc ⟨1, pl, ll, ⟨vn, vf⟩⟩ 61) (by intro q hq; simp [ntCell] at hq; rcases hq with rfl | rfl | rfl | rfl | rfl <;> rfl) (by unfold maxLen; omega) (by omega) (by simp; omega) (by decide) ?_
      intro v' w2 hown hgrow hfr
      have hk := state_grown HSC.out.state hvr HOW.out HSS.out (W := (wc.alloc (.cells #[.int .i64 1, .int .i64 pl, .int .i64 ll, .int .i64 vn, .int .i64 vf] 61)).drew) (((Below.refl _ _).alloc (Nat.le_refl _) _).drew) hgrow
      have q0' : w2.cell? ⟨g, 52, none⟩ = some vr' := (World.cell?_of_block (a := ⟨g, 52, none⟩) hk.1).trans hvr
      have q1' : ∀ o, w2.frozen? ⟨g, o, none⟩ = false := (fun o => (World.frozen?_of_block (a := ⟨g, o, none⟩) hk.1).trans (fzc o))
      obtain ⟨gn, capn, rfl⟩ := Joins.ownsRow_form hown (by omega)
      have HSX : Hid (StepAt g S w (w2.setCell ⟨g, 52, none⟩ (.slice (some ⟨gn, 0, none⟩) (sk.2.length + 1) capn)) s1) := by
       rw [← HS1.out]
       exact HSC.out.trans ⟨state_more HSC.out.state HSS.out (by simp) hk.1 hown hfr, hk.2.setCell _ _⟩
      have hw2 : ∀ q, q < wc.heap.size → vr'.ownBlock ≠ some q → w2.heap[q]? = wc.heap[q]? := fun q hq hne => (hgrow.block q (by simp; omega) (fun e => hne e.symm)).trans (Below.heap_alloc _ _ _ hq)
      refine hK.out _ _ (HKP.out _ (hw2 b hbb HNB.out) (hw2 ba hba HNA.out) (hw2 _ hb5 HN5.out)) (fun hHeld => ?_)
      clear hK K
      try simp only [Act.put, List.setIfInBounds_toArray, List.set_cons_zero, List.set_cons_succ, List.getElem_toArray, List.getElem_cons_zero, List.getElem_cons_succ]
      refine wpAnyH_take (i := 17) (v := ?v17p1) rfl (by kernel_rfl) (by kernel_rfl) (by kernel_rfl) (fun _ _ _ h => h) (Or.inl ⟨by rfl, ?hy17p1⟩) (by assumption) ?rest17p1
      case hy17p1 => (intro w hSw; (try dsimp only at hSw); go_simp; (try with_reducible rfl))
      simp only [Act.put, List.setIfInBounds_toArray, List.set_cons_zero, List.set_cons_succ, List.getElem_toArray, List.getElem_cons_zero, List.getElem_cons_succ]
      refine wpAnyH_take (i := 18) (v := ?v18p1) rfl (by kernel_rfl) (by kernel_rfl) (by kernel_rfl) (fun _ _ _ h => h) (Or.inl ⟨by rfl, ?hy18p1⟩) (by assumption) ?rest18p1
      case hy18p1 => (intro w hSw; (try dsimp only at hSw); go_simp; (try with_reducible rfl))
      simp only [Act.put, List.setIfInBounds_toArray, List.set_cons_zero, List.set_cons_succ, List.getElem_toArray, List.getElem_cons_zero, List.getElem_cons_succ]
      refine wpAnyH_ready (rs := [19]) (by kernel_rfl) (by simp) ?_
      refine AllReadyH.cons rfl (fun K hK => ?_) AllReadyH.nil
      go_simp
      refine hK.out _ _ (HKP.out _ ((Below.heap_setCell _ _ _ _ hgb).trans (hw2 b hbb HNB.out)) ((Below.heap_setCell _ _ _ _ hgba).trans (hw2 ba hba HNA.out)) ((Below.heap_setCell _ _ _ _ hg5).trans (hw2 _ hb5 HN5.out))) (fun hHeld => ?_)
      clear hK K hw2 hk hgrow hfr hown
      try simp only [Act.put, List.setIfInBounds_toArray, List.set_cons_zero, List.set_cons_succ, List.getElem_toArray, List.getElem_cons_zero, List.getElem_cons_succ]
      refine wpAnyH_done (by kernel_rfl) ?_ _
      (go_wp2_with (first | (go_at_call 77; refine (over_any b k o C A _ (HB0.out.below (onto_low HBW.out HSX.out.onto hg0 HSB.out)) HV.out).mono ?_; rintro x1 w' ⟨rfl, hw1⟩; rw [hw1]; clear hw1)); go_roundw; (case rel => exact ⟨o, f', s1, by go_num, by omega, by omega, HPN, HSO, HSX⟩); (case measure => simp [intOf]; omega))
     ·go_simp
      refine hK.out _ _ (HKP.out _ (Below.heap_alloc _ _ _ hbb) (Below.heap_alloc _ _ _ hba) (Below.heap_alloc _ _ _ hb5)) (fun hHeld => ?_)
      clear hK K
      try simp only [Act.put, List.setIfInBounds_toArray, List.set_cons_zero, List.set_cons_succ, List.getElem_toArray, List.getElem_cons_zero, List.getElem_cons_succ]
      refine wpAnyH_ready (rs := [4]) (by kernel_rfl) (by simp) ?_
      refine AllReadyH.cons rfl (fun K hK => ?_) AllReadyH.nil
      go_simp
      refine hK.out _ _ (HKP.out _ (Below.heap_alloc _ _ _ hbb) (Below.heap_alloc _ _ _ hba) (Below.heap_alloc _ _ _ hb5)) (fun hHeld => ?_)
      clear hK K
      try simp only [Act.put, List.setIfInBounds_toArray, List.set_cons_zero, List.set_cons_succ, List.getElem_toArray, List.getElem_cons_zero, List.getElem_cons_succ]
      refine wpAnyH_ready (rs := [16]) (by kernel_rfl) (by simp) ?_
      refine AllReadyH.cons rfl (fun K hK => ?_) AllReadyH.nil
      refine rv_append2 rfl (.tmp 114) (.tmp 125) 51 rfl (g + 1) 61 iV (.agg #[.int .i64 0, .int .i64 0, .int .i64 0, .int .i64 0, .int .i64 0]) 5 40 Tryz.underlying51 hiV hzV hsV hbV rfl (by decide) vr' sk.2.length (ntCells sk.2) (by simp [Act.eval, Act.put]) (by exact (HOW.out.alloc _).drew) ⟨wc.heap.size, 0, none⟩ 1 1 (ntCell ⟨1, pl, ll, ⟨vn, vf⟩⟩) (by simp [Act.eval, Act.put]) rfl (by exact nt_new wc ⟨1, pl, ll, ⟨vn, vf⟩⟩ 61) (by intro q hq; simp [ntCell] at hq; rcases hq with rfl | rfl | rfl | rfl | rfl <;> rfl) (by unfold maxLen; omega) (by omega) (by simp; omega) (by decide) ?_
      intro v' w2 hown hgrow hfr
      have hk := state_grown HSC.out.state hvr HOW.out HSS.out (W := (wc.alloc (.cells #[.int .i64 1, .int .i64 pl, .int .i64 ll, .int .i64 vn, .int .i64 vf] 61)).drew) (((Below.refl _ _).alloc (Nat.le_refl _) _).drew) hgrow
      have q0' : w2.cell? ⟨g, 52, none⟩ = some vr' := (World.cell?_of_block (a := ⟨g, 52, none⟩) hk.1).trans hvr
      have q1' : ∀ o, w2.frozen? ⟨g, o, none⟩ = false := (fun o => (World.frozen?_of_block (a := ⟨g, o, none⟩) hk.1).trans (fzc o))
      obtain ⟨gn, capn, rfl⟩ := Joins.ownsRow_form hown (by omega)
      have HSX : Hid (StepAt g S w (w2.setCell ⟨g, 52, none⟩ (.slice (some ⟨gn, 0, none⟩) (sk.2.length + 1) capn)) s1) := by
       rw [← HS1.out]
       exact HSC.out.trans ⟨state_more HSC.out.state HSS.out (by simp) hk.1 hown hfr, hk.2.setCell _ _⟩
      have hw2 : ∀ q, q < wc.heap.size → vr'.ownBlock ≠ some q → w2.heap[q]? = wc.heap[q]? := fun q hq hne => (hgrow.block q (by simp; omega) (fun e => hne e.symm)).trans (Below.heap_alloc _ _ _ hq)
      refine hK.out _ _ (HKP.out _ (hw2 b hbb HNB.out) (hw2 ba hba HNA.out) (hw2 _ hb5 HN5.out)) (fun hHeld => ?_)
      clear hK K
      try simp only [Act.put, List.setIfInBounds_toArray, List.set_cons_zero, List.set_cons_succ, List.getElem_toArray, List.getElem_cons_zero, List.getElem_cons_succ]
      refine wpAnyH_take (i := 17) (v := ?v17q1) rfl (by kernel_rfl) (by kernel_rfl) (by kernel_rfl) (fun _ _ _ h => h) (Or.inl ⟨by rfl, ?hy17q1⟩) (by assumption) ?rest17q1
      case hy17q1 => (intro w hSw; (try dsimp only at hSw); go_simp; (try with_reducible rfl))
      simp only [Act.put, List.setIfInBounds_toArray, List.set_cons_zero, List.set_cons_succ, List.getElem_toArray, List.getElem_cons_zero, List.getElem_cons_succ]
      refine wpAnyH_take (i := 18) (v := ?v18q1) rfl (by kernel_rfl) (by kernel_rfl) (by kernel_rfl) (fun _ _ _ h => h) (Or.inl ⟨by rfl, ?hy18q1⟩) (by assumption) ?rest18q1
      case hy18q1 => (intro w hSw; (try dsimp only at hSw); go_simp; (try with_reducible rfl))
      simp only [Act.put, List.setIfInBounds_toArray, List.set_cons_zero, List.set_cons_succ, List.getElem_toArray, List.getElem_cons_zero, List.getElem_cons_succ]
      refine wpAnyH_ready (rs := [19]) (by kernel_rfl) (by simp) ?_
      refine AllReadyH.cons rfl (fun K hK => ?_) AllReadyH.nil
      go_simp
      refine hK.out _ _ (HKP.out _ ((Below.heap_setCell _ _ _ _ hgb).trans (hw2 b hbb HNB.out)) ((Below.heap_setCell _ _ _ _ hgba).trans (hw2 ba hba HNA.out)) ((Below.heap_setCell _ _ _ _ hg5).trans (hw2 _ hb5 HN5.out))) (fun hHeld => ?_)
      clear hK K hw2 hk hgrow hfr hown
      try simp only [Act.put, List.setIfInBounds_toArray, List.set_cons_zero, List.set_cons_succ, List.getElem_toArray, List.getElem_cons_zero, List.getElem_cons_succ]
      refine wpAnyH_done (by kernel_rfl) ?_ _
      (go_wp2_with (first | (go_at_call 77; refine (over_any b k o C A _ (HB0.out.below (onto_low HBW.out HSX.out.onto hg0 HSB.out)) HV.out).mono ?_; rintro x1 w' ⟨rfl, hw1⟩; rw [hw1]; clear hw1)); go_roundw; (case rel => exact ⟨o, f', s1, by go_num, by omega, by omega, HPN, HSO, HSX⟩); (case measure => simp [intOf]; omega))
    have t94 : ((c.toNat : Int) == 94) = false := u8_ne (b := 94) h94
    by_cases h40 : c = 40
    ·subst h40
     have hru := HRU.out
     unfold ruleO at hru
     rw [if_neg (by decide), if_neg (by decide), if_pos rfl] at hru
     simp only at hru
     clear t62 t94 h62 h94
     by_cases f0 : vf = 0
     ·subst f0
      rw [if_pos rfl] at hru
      by_cases n0 : vn = 0
      ·subst n0
       rw [if_neg (by simp)] at hru
       have HPC : Hid (∀ w' : World, _) := fun w' => IH.out f' (by omega) t.r t.s _ s1 hru HGO.out HBN.out b3 b4 (fun i => S i ∨ w.heap.size ≤ i) w'
       clear hru HRU
       go_wp2_with (first | (go_at_call 46; refine (HPC.out _ HBC.out HSC.out.state HSB2.out).mono ?_; rintro x1 w6 ⟨rfl, hs6⟩; have HSX : Hid (StepAt g S w w6 s1) := HSC.out.trans hs6; clear hs6) | (go_at_call 77; refine (over_any b k o C A _ (HB0.out.below (onto_low HBW.out HSX.out.onto hg0 HSB.out)) HV.out).mono ?_; rintro x1 w' ⟨rfl, hw1⟩; rw [hw1]; clear hw1))
       go_roundw
       case rel => exact ⟨o, f', s1, by go_num, by omega, by omega, HPN, HSO, HSX⟩
       case measure => simp [intOf]; omega
      ·have tn : (vn != 0) = true := by simpa using n0
       have tn2 : (vn == 0) = false := by simpa using n0
       rw [if_pos n0] at hru
       have HPC : Hid (∀ w' : World, _) := fun w' => IH.out f' (by omega) t.p t.q _ s1 hru HGO.out HBN.out b1 b2 (fun i => vr'.ownBlock = some i) w'
       have HSR : Hid (StateAt wc g (fun i => vr'.ownBlock = some i) (giveO ⟨en, el, elo, ehi⟩ ⟨vn, 0⟩ sk, sk.2)) := ⟨HSC.out.state.cell, ⟨vr', hvr, HOW.out, fun _ h => h⟩, fzc⟩
       have HSR2 : Hid (∀ i, vr'.ownBlock = some i → g < i) := fun i hi => HSB2.out i (HSS.out i hi)
       clear hru HRU n0
       go_wp2_with (first | (go_at_call 46; refine (HPC.out _ HBC.out HSR.out HSR2.out).mono ?_; rintro x1 w6 ⟨rfl, hs6⟩; have HSX : Hid (StepAt g S w w6 s1) := HSC.out.trans (hs6.wider HSS.out); have hbv := hs6.onto.block w5.heap.size hb5 (fun h => hne5 h.symm) (fun e => by have := HVL.out _ e; omega); have y06 := (World.cell?_of_block (a := ⟨w5.heap.size, 0, none⟩) hbv).trans y0; have y16 := (World.cell?_of_block (a := ⟨w5.heap.size, 1, none⟩) hbv).trans y1; clear hs6 hbv) | (go_at_call 77; refine (over_any b k o C A _ (HB0.out.below (onto_low HBW.out HSX.out.onto hg0 HSB.out)) HV.out).mono ?_; rintro x1 w' ⟨rfl, hw1⟩; rw [hw1]; clear hw1))
       go_roundw
       case rel => exact ⟨o, f', s1, by go_num, by omega, by omega, HPN, HSO, HSX⟩
       case measure => simp [intOf]; omega
     ·have tf : (vf == 0) = false := by simpa using f0
      rw [if_neg f0] at hru
      simp only [Option.some.injEq] at hru
      have HSX : Hid (StepAt g S w wc s1) := by rw [← hru]; exact HSC
      clear hru HRU f0
      (go_wp2_with (first | (go_at_call 77; refine (over_any b k o C A _ (HB0.out.below (onto_low HBW.out HSX.out.onto hg0 HSB.out)) HV.out).mono ?_; rintro x1 w' ⟨rfl, hw1⟩; rw [hw1]; clear hw1)); go_roundw; (case rel => exact ⟨o, f', s1, by go_num, by omega, by omega, HPN, HSO, HSX⟩); (case measure => simp [intOf]; omega))
    ·have t40 : ((c.toNat : Int) == 40) = false := u8_ne (b := 40) h40
     have hru := HRU.out
     unfold ruleO at hru
     rw [if_neg h62, if_neg h94, if_neg h40] at hru
     simp only [Option.some.injEq] at hru
     have HSX : Hid (StepAt g S w wc s1) := by rw [← hru]; exact HSC
     clear hru HRU
     (go_wp2_with (first | (go_at_call 77; refine (over_any b k o C A _ (HB0.out.below (onto_low HBW.out HSX.out.onto hg0 HSB.out)) HV.out).mono ?_; rintro x1 w' ⟨rfl, hw1⟩; rw [hw1]; clear hw1)); go_roundw; (case rel => exact ⟨o, f', s1, by go_num, by omega, by omega, HPN, HSO, HSX⟩); (case measure => simp [intOf]; omega))
  ·have tk : decide ((k : Int) < (hi : Int)) = false := by simp; omega
   have HF : Hid (s' = sk) := play_end HPK.out hlt
   go_wp2_with fail
   go_end0
   rw [HF.out]
   exact ⟨rfl, HST.out⟩
end Go.Proofs.YtdgmoiflahoihaaGreatDoor
