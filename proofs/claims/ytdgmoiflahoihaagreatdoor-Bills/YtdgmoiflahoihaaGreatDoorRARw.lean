import Derived.Test.YtdgmoiflahoihaaGreatDoorRAP2w
import Derived.Test.YtdgmoiflahoihaaGreatDoorLRPw
import Derived.Test.YtdgmoiflahoihaaGreatDoorCRefw

namespace Go.Proofs.YtdgmoiflahoihaaGreatDoor
open Go.RowKit
set_option linter.unusedSimpArgs false
set_option linter.unusedVariables false
theorem run_parts {t : List UInt8} {fs : List Int} (h0 : (checkP t).1 = 0) (hf : FsOk fs) : ∃ (B : Nat) (ns : List Int), t.length ≤ 400 ∧ beginC (keptL t) = some B ∧ B ≤ (keptL t).length ∧ fieldsF (keptL t) B ((keptL t).length + 1) 0 = some ns ∧ (∀ n ∈ ns, 0 ≤ n ∧ n < 26) ∧ ns.length ≤ 1000 ∧
  (ns.length ≠ fs.length → runP t fs = (6, [])) ∧ (ns.length = fs.length → ∃ s', playF (keptL t) (atL t 0) ((keptL t).length + 1) B (keptL t).length (setAll ns fs vals0, []) = some s' ∧ runP t fs = (0, s'.2) ∧ s'.2.length ≤ 5000) := by
 obtain ⟨h1, h2, _⟩ := checkP_ok h0
 obtain ⟨_, B, hb, hH, hT⟩ := (parse_spec t).2 h2
 have hB := begin_le hb
 have hfi := fields_eq (parseH t).2 0 ((keptL t).length + 1) hH (by omega)
 have hp := parse_ok h1 h2
 have hc : (List.filter (fun x => x.field) (parseH t).2).length = countF (parseH t).2 := rfl
 refine ⟨B, _, h1, hb, hB, hfi, fun n hn => ?_, ?_, fun hne => ?_, fun he => ?_⟩
 ·obtain ⟨x, hx, rfl⟩ := List.mem_map.mp hn
  have := hp.heads x (List.mem_filter.mp hx).1
  exact ⟨this.1, this.2.1⟩
 ·rw [List.length_map]
  exact Nat.le_trans (List.length_filter_le _ _) hp.few
 ·rw [List.length_map, hc] at hne
  unfold runP
  rw [if_neg (by simpa using h0), if_pos (fun e => hne e.symm)]
 ·rw [List.length_map, hc] at he
  refine ⟨_, play_eq 9 _ B _ _ _ hT (Nat.le_refl _) (by omega), ?_, ?_⟩
  ·unfold runP
   rw [if_neg (by simpa using h0), if_neg (by simpa using he.symm), setAll_fill]
  ·have := runP_few t fs hf
   unfold runP at this
   rw [if_neg (by simpa using h0), if_neg (by simpa using he.symm)] at this
   rw [setAll_fill]
   exact this
set_option maxRecDepth 100000 in
set_option maxHeartbeats 2000000 in
theorem refRun_err (s : ByteArray) (fs : List Int) (af : Option Addr) (gf of capf : Nat) (w : World) (hs : s.size ≤ maxLen) (hf : NumCells w af gf of fs) (hfl : fs.length ≤ 9223372036854775807) (hfo : FsOk fs) (h : (checkP s.data.toList).1 ≠ 0) :
  Calls Tryz.prog 21 #[.string s, .slice af fs.length capf] w (RunPost w (runP s.data.toList fs)) := by
 have hr : runP s.data.toList fs = ((checkP s.data.toList).1, []) := by unfold runP; rw [if_pos h]
 rw [hr]
 have HC : Hid (Calls Tryz.prog 43 #[.string s] w fun e w' => e = .returned (.tuple #[.int .i64 (checkP s.data.toList).1, .int .i64 (checkP s.data.toList).2]) ∧ Below w.heap.size w w') := refCheck_any s w _ hs (check_eq _)
 generalize checkP s.data.toList = y at *
 obtain ⟨y1, y2⟩ := y
 simp only at HC h ⊢
 have t : (y1 != 0) = true := by simpa using h
 clear hr hf hfo
 go_enter Tryz.func21, Tryz.ntmps21
 go_wp2_with (go_at_call 43; refine HC.out.mono ?_; rintro e w1 ⟨rfl, hb1⟩)
 go_ret2
 exact ⟨⟨_, rfl, fun _ => rfl, World.ownsRow_nil ..⟩, hb1⟩
theorem setAll_cons {n x : Int} {r g : List Int} {vals : List Vl} : setAll (n :: r) (x :: g) vals = setAll r g (vals.set n.toNat ⟨x, 0⟩) := rfl
set_option maxRecDepth 100000 in
set_option maxHeartbeats 8000000 in
theorem refRun_ok (s : ByteArray) (fs : List Int) (af : Option Addr) (gf of capf : Nat) (w : World) (hs : s.size ≤ maxLen) (hf : NumCells w af gf of fs) (hfl : fs.length ≤ 9223372036854775807) (hfo : FsOk fs) (h : (checkP s.data.toList).1 = 0) :
  Calls Tryz.prog 21 #[.string s, .slice af fs.length capf] w (RunPost w (runP s.data.toList fs)) := by
 obtain ⟨B, ns, h400, hb, hB, hfi, hnn, hnl, hne, heq⟩ := run_parts h hfo
 have hsl : s.data.toList.length = s.size := by simp
 have HC : Hid (Calls Tryz.prog 43 #[.string s] w fun e w' => e = .returned (.tuple #[.int .i64 0, .int .i64 (checkP s.data.toList).2]) ∧ Below w.heap.size w w') := by
  have := refCheck_any s w _ hs (check_eq _)
  rw [h] at this
  exact this
 have HRD : Hid (∀ w, _) := fun w => read_any s w (by omega)
 have hkl := kept_le s.data.toList
 generalize keptL s.data.toList = C at *
 generalize atL s.data.toList 0 = A at *
 generalize (checkP s.data.toList).2 = y2 at *
 generalize runP s.data.toList fs = RP at *
 have HB : Hid (beginC C = some B) := hb
 have HFI : Hid _ := hfi
 have HNN : Hid (∀ n ∈ ns, 0 ≤ n ∧ n < 26) := hnn
 have HF : Hid (NumCells w af gf of fs) := hf
 have HFO : Hid (FsOk fs) := hfo
 clear hb hfi hnn hf hfo h
 by_cases hlen : ns.length = fs.length
 ·obtain ⟨s', hp, hrp, hs5⟩ := heq hlen
  have tn : ((ns.length : Int) != (fs.length : Int)) = false := by simp [hlen]
  have HP : Hid _ := hp
  have HRP : Hid (RP = (0, s'.2)) := hrp
  clear hne heq hp hrp
  go_enter Tryz.func21, Tryz.ntmps21
  go_upto_region 9 with (first | (go_at_call 43; refine HC.out.mono ?_; rintro e1 w1 ⟨rfl, hb1⟩; have HB1 : Hid (Below w.heap.size w w1) := hb1; clear hb1) | (go_at_call 44; refine (HRD.out _).mono ?_; rintro e2 w2 ⟨rfl, hb2, hbk2⟩; have HB2 : Hid (Below w1.heap.size w1 w2) := hb2; have HK2 : Hid (BookAt w2 w1.heap.size C A) := hbk2; clear hb2 hbk2) | (go_at_call 45; refine (fields_any w1.heap.size B (C.length + 1) C A ns _ HK2.out HB.out hB HFI.out).mono ?_; rintro e3 w3 ⟨⟨vf3, rfl, ho3⟩, hb3⟩; obtain ⟨an, gn, cn, rfl, hcn⟩ := nums_form ho3; have HB3 : Hid (Below w2.heap.size w2 w3) := hb3; have HN3 : Hid (NumCells w3 an gn 0 ns) := hcn; clear hb3 hcn ho3))
  have s1 := HB1.out.size
  have s2 := HB2.out.size
  have s3 := HB3.out.size
  rw [st53_lit]
  have hS0 := state_new w3 104
  have hB13 : Below w.heap.size w w3 := (HB1.out.trans (HB2.out.mono s1)).trans (HB3.out.mono (by omega))
  have HB13 : Hid (Below w.heap.size w w3) := hB13
  have HBK3 : Hid (BookAt w3 w1.heap.size C A) := HK2.out.below HB3.out
  have HF3 : Hid (NumCells w3 af gf of fs) := HF.out.below hB13
  have hBA : Below w3.heap.size w3 (w3.alloc (.cells st53.toArray 104)) := (Below.refl _ _).alloc (Nat.le_refl _) _
  have hWs : (w3.alloc (.cells st53.toArray 104)).heap.size = w3.heap.size + 1 := by simp
  generalize hW4 : w3.alloc (.cells st53.toArray 104) = W4 at *
  have HBA : Hid (Below w3.heap.size w3 W4) := hBA
  have HS0 : Hid (StepAt w3.heap.size (fun _ => False) W4 W4 (vals0, [])) := StepAt.still hS0 (Below.refl _ _)
  have HOV : Hid (StOk (vals0, [])) := ⟨rfl, fun v hv => by have := List.eq_of_mem_replicate hv; rw [this]; exact vl0_ok⟩
  have hgW : w3.heap.size < W4.heap.size := by omega
  have hcap : (0 : Int) ≤ 0 := by omega
  clear hS0 hB13 hW4 hBA hcap
  go_wp2_with fail
  go_loopw [11] (fun x w' => ∃ (k : Nat) (vk : List Vl), x = .int .i64 k ∧ k ≤ fs.length ∧ Hid (setAll (ns.drop k) (fs.drop k) vk = setAll ns fs vals0) ∧ Hid (StOk (vk, [])) ∧ Hid (StepAt w3.heap.size (fun _ => False) W4 w' (vk, []))) (fun x _ => fs.length - (intOf x).toNat)
  case atStart => exact ⟨0, vals0, rfl, by omega, rfl, HOV, HS0⟩
  case round =>
   obtain ⟨k, vk, rfl, hk, HVK, HOK, HSK⟩ := hrel
   have hlow : Below w3.heap.size w3 wr := HBA.out.trans (HSK.out.onto.below hgW (fun _ h => h.elim))
   have HLOW : Hid (Below w3.heap.size w3 wr) := hlow
   have hgr : w3.heap.size < wr.heap.size := HSK.out.state.lt
   by_cases hlt : k < fs.length
   ·have tk : decide ((k : Int) < (fs.length : Int)) = true := by simp; omega
    have hltn : k < ns.length := by omega
    obtain ⟨rfl, hgn, hcn⟩ := HN3.out.below hlow k hltn
    obtain ⟨rfl, hgf, hcf⟩ := HF3.out.below hlow k hlt
    obtain ⟨n0, n26⟩ := HNN.out ns[k] (List.getElem_mem hltn)
    have HV2 : Hid (setAll (ns.drop (k + 1)) (fs.drop (k + 1)) (vk.set ns[k].toNat ⟨fs[k], 0⟩) = setAll ns fs vals0) := by
     have := HVK.out
     rw [List.drop_eq_getElem_cons hltn, List.drop_eq_getElem_cons hlt, setAll_cons] at this
     exact this
    have hfk := HFO.out fs[k] (List.getElem_mem hlt)
    generalize fs[k] = x at *
    generalize ns[k] = n at *
    obtain ⟨nn, rfl⟩ : ∃ nn : Nat, n = nn := ⟨n.toNat, by omega⟩
    rw [Int.toNat_natCast] at HV2
    have hnn : nn < 26 := by omega
    have HO2 : Hid (StOk (vk.set nn ⟨x, 0⟩, [])) := HOK.out.set ⟨hfk, by simp, by simp⟩ nn []
    obtain ⟨e0, e1⟩ := HSK.out.state.cell nn hnn
    have fz := HSK.out.state.fz
    have ik0 : (0 : Int) ≤ (k : Int) := by omega
    have ik1 : (k : Int) < (fs.length : Int) := by omega
    rw [Nat.zero_add] at hcn
    clear hlow
    go_wp2_with fail
    go_region
    all_goals go_wp2_with fail
    all_goals go_roundw
    all_goals first | (case rel => exact ⟨k + 1, vk.set nn ⟨x, 0⟩, by go_num, by omega, HV2, HO2, ⟨((HSK.out.state.set HOK.out.len nn hnn ⟨x, 0⟩).drew), (((HSK.out.onto).setCell _ _).setCell _ _).drew⟩⟩) | skip
    all_goals (simp [intOf]; omega)
   ·have tk : decide ((k : Int) < (fs.length : Int)) = false := by simp; omega
    have HVE : Hid (vk = setAll ns fs vals0) := by
     have := HVK.out
     rw [List.drop_of_length_le (by omega), List.drop_of_length_le (by omega)] at this
     exact this
    have hbk := HBK3.out.below hlow
    have HBK : Hid (BookAt wr w1.heap.size C A) := hbk
    obtain ⟨_, _, ac, aa, bc, ba, capc, capa, q0, q1, hc, ha⟩ := hbk
    have HPL : Hid (PlayGives w1.heap.size w3.heap.size w3 B C.length (vk, []) s') := play_any w1.heap.size w3.heap.size C A w3 HBK3.out (Nat.le_refl _) _ B C.length _ s' (by rw [HVE.out]; exact HP.out) HOK.out (by omega) (by omega) (by omega)
    have HSB : Hid (∀ i, (False ∨ W4.heap.size ≤ i) → w3.heap.size < i) := fun i hi => by
     rcases hi with hi | hi
     ·exact hi.elim
     ·omega
    clear hc ha hlow
    go_wp2_with fail
    go_region_with (first | (go_at_call 47; refine (begin_any w1.heap.size B C A _ (HBK.out.below (by first | exact (Below.refl _ _).drew | exact Below.refl _ _)) HB.out).mono ?_; rintro x1 w5 ⟨rfl, hw5⟩; rw [hw5]; clear hw5) | (go_at_call 46; refine (HPL.out _ _ (by exact HLOW.out.drew) HSK.out.state.drew HSB.out).mono ?_; rintro x1 w6 ⟨rfl, hs6⟩; obtain ⟨vn, hvn, hon, _⟩ := hs6.state.row; have HS6 : Hid _ := hs6; clear hs6))
    all_goals (
     have hst : StepAt w3.heap.size (fun _ => False) W4 w6 s' := HSK.out.trans (HS6.out.pre ((Below.refl _ _).drew))
     have hlw : Below w3.heap.size w3 w6 := HBA.out.trans (hst.onto.below hgW (fun _ h => h.elim))
     have HLW : Hid (Below w.heap.size w w6) := HB13.out.trans (hlw.mono (by omega))
     clear hst hlw HS6
     go_wp2_with fail
     go_ret2
     rw [HRP.out]
     exact ⟨⟨vn, rfl, fun hx => absurd rfl hx, ownsRow_base (show w6.ownsRow (w3.heap.size + 1) 61 5 vn s'.2.length (ntCells s'.2) from hon) (by omega)⟩, HLW.out⟩)
 ·have tn : ((ns.length : Int) != (fs.length : Int)) = true := by simp; omega
  have HRP : Hid (RP = (6, [])) := hne hlen
  clear hne heq
  go_enter Tryz.func21, Tryz.ntmps21
  go_wp2_with (first | (go_at_call 43; refine HC.out.mono ?_; rintro e1 w1 ⟨rfl, hb1⟩; have HB1 : Hid (Below w.heap.size w w1) := hb1; clear hb1) | (go_at_call 44; refine (HRD.out _).mono ?_; rintro e2 w2 ⟨rfl, hb2, hbk2⟩; have HB2 : Hid (Below w1.heap.size w1 w2) := hb2; have HK2 : Hid (BookAt w2 w1.heap.size C A) := hbk2; clear hb2 hbk2) | (go_at_call 45; refine (fields_any w1.heap.size B (C.length + 1) C A ns _ HK2.out HB.out hB HFI.out).mono ?_; rintro e3 w3 ⟨⟨vf3, rfl, ho3⟩, hb3⟩; obtain ⟨an, gn, cn, rfl, hcn⟩ := nums_form ho3; have HB3 : Hid (Below w2.heap.size w2 w3) := hb3; have HN3 : Hid (NumCells w3 an gn 0 ns) := hcn; clear hb3 hcn ho3))
  go_ret2
  rw [HRP.out]
  have s1 := HB1.out.size
  have s2 := HB2.out.size
  exact ⟨⟨_, rfl, fun _ => rfl, World.ownsRow_nil ..⟩, (HB1.out.trans (HB2.out.mono s1)).trans (HB3.out.mono (by omega))⟩
theorem refRun_any (s : ByteArray) (fs : List Int) (af : Option Addr) (gf of capf : Nat) (w : World) (hs : s.size ≤ maxLen) (hf : NumCells w af gf of fs) (hfl : fs.length ≤ 9223372036854775807) (hfo : FsOk fs) : Calls Tryz.prog 21 #[.string s, .slice af fs.length capf] w (RunPost w (runP s.data.toList fs)) := by
 by_cases h : (checkP s.data.toList).1 = 0
 ·exact refRun_ok s fs af gf of capf w hs hf hfl hfo h
 ·exact refRun_err s fs af gf of capf w hs hf hfl hfo h
end Go.Proofs.YtdgmoiflahoihaaGreatDoor
