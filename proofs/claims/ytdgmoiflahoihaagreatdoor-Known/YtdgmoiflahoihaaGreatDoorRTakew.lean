import Derived.Test.YtdgmoiflahoihaaGreatDoorRDow
import Derived.RegionTactic
import Derived.Test.YtdgmoiflahoihaaGreatDoorPCheckw

namespace Go.Proofs.YtdgmoiflahoihaaGreatDoor
open Go.RowKit
set_option linter.unusedSimpArgs false
set_option linter.unusedVariables false
def countF (l : List Hd) : Nat := (l.filter (·.field)).length
def fillV : List Hd → List Int → List Vl → List Vl
 | [], _, vals => vals
 | h :: r, fs, vals => if h.field then (match fs with | [] => fillV r [] vals | f :: g => fillV r g (vals.set h.name.toNat ⟨f, 0⟩)) else fillV r fs vals
theorem countF_cons (h : Hd) (r : List Hd) : countF (h :: r) = (if h.field then 1 else 0) + countF r := by
 unfold countF
 cases e : h.field <;> simp [e]; omega
set_option maxRecDepth 100000 in
set_option maxHeartbeats 1000000 in
theorem countFields_any (l : List Hd) (P : Nat → Prop) (v : Value) (w : World) (hl : l.length ≤ 1000) (hv : HeadsV w P v l) :
  Calls Tryz.prog 66 #[v] w fun e w' => e = .returned (.int .i64 (countF l : Nat)) ∧ Below w.heap.size w w' := by
 obtain ⟨ao, g, cap, rfl, hcap, hcells⟩ := heads_form hv
 clear hv
 have HC : Hid (HeadCells w ao g l) := hcells
 clear hcells
 have hcl : countF l ≤ l.length := List.length_filter_le _ _
 have HR : Hid (0 + countF l = countF l) := by show _ = _; omega
 generalize hR : countF l = R at *
 have HR2 : Hid (countF l = R) := hR
 clear hR
 go_enter Tryz.func66, Tryz.ntmps66
 go_wp2_with fail
 go_loopw [3, 8] (fun x y w' => ∃ (k a : Nat), y = .int .i64 k ∧ x = .int .i64 a ∧ k ≤ l.length ∧ a ≤ k ∧ Hid (Below w.heap.size w w') ∧ Hid (a + countF (l.drop k) = R)) (fun _ y _ => l.length - (intOf y).toNat)
 case atStart => exact ⟨0, 0, rfl, rfl, by omega, by omega, Below.refl _ _, by show _ = _; have := HR2.out; simpa using this⟩
 case round =>
  obtain ⟨k, a, rfl, rfl, hk, hak, HW, HL⟩ := hrel
  by_cases hlt : k < l.length
  ·have tk : decide ((k : Int) < (l.length : Int)) = true := by simp; omega
   obtain ⟨e0, hg, c0, c1, c2, c3⟩ := HC.out k hlt
   rw [← HW.out.cell (p := ⟨g, k * 4, none⟩) hg] at c0
   rw [← HW.out.cell (p := ⟨g, k * 4 + 1, none⟩) hg] at c1
   rw [← HW.out.cell (p := ⟨g, k * 4 + 2, none⟩) hg] at c2
   rw [← HW.out.cell (p := ⟨g, k * 4 + 3, none⟩) hg] at c3
   have hz : w.heap.size ≤ wr.heap.size := HW.out.size
   have hstep := HL.out
   rw [List.drop_eq_getElem_cons hlt, countF_cons] at hstep
   generalize hp : l[k] = p at *
   obtain ⟨fd, pl, nm, lb⟩ := p
   simp only at c0 c1 c2 c3 hstep
   subst e0
   cases fd
   ·have HS : Hid (a + countF (l.drop (k + 1)) = R) := by show _ = _; simpa using hstep
    clear hstep hp
    go_wp2_with fail
    go_roundw
    case rel => exact ⟨k + 1, a, by go_num, rfl, by omega, by omega, HW.out.alloc (by omega) _, HS⟩
    case measure => simp [intOf]; omega
   ·have HS : Hid (a + 1 + countF (l.drop (k + 1)) = R) := by show _ = _; simp at hstep; omega
    clear hstep hp
    go_wp2_with fail
    go_roundw
    case rel => exact ⟨k + 1, a + 1, by go_num, by go_num, by omega, by omega, HW.out.alloc (by omega) _, HS⟩
    case measure => simp [intOf]; omega
  ·have tk : decide ((k : Int) < (l.length : Int)) = false := by simp; omega
   have hfin : a = R := by
    have := HL.out
    rw [List.drop_of_length_le (by omega)] at this
    exact this
   have HF : Hid _ := hfin
   clear hfin
   go_wp2_with fail
   go_ret
   exact ⟨ret_int (by rw [HF.out]), HW.out⟩
structure IntsAt (w : World) (P : Nat → Prop) (v : Value) (l : List Int) : Prop where
 here : ∃ ao g cap, v = .slice ao l.length cap ∧ ∀ i, ∀ hi : i < l.length, ao = some ⟨g, 0, none⟩ ∧ P g ∧ w.cell? ⟨g, i, none⟩ = some (.int .i64 l[i])
theorem IntsAt.frame {w w' : World} {P Q : Nat → Prop} {v : Value} {l : List Int} (h : IntsAt w P v l) (hk : ∀ k, P k → k < w.heap.size → Q k ∧ w'.heap[k]? = w.heap[k]?) : IntsAt w' Q v l := by
 obtain ⟨ao, g, cap, hv, hc⟩ := h.here
 refine ⟨ao, g, cap, hv, fun i hi => ?_⟩
 obtain ⟨a, b, c⟩ := hc i hi
 have hlt := World.block_lt_of_cell? w _ c
 obtain ⟨q1, q2⟩ := hk g b hlt
 exact ⟨a, q1, (World.cell?_of_block (a := ⟨g, i, none⟩) q2).trans c⟩
theorem StepAt.later {b : Nat} {S : Nat → Prop} {w w1 w2 : World} {s : SR} (h : StepAt b S w w1 s) (k : Below w1.heap.size w1 w2) : StepAt b S w w2 s :=
 ⟨h.state.keep k (Nat.le_refl _), h.onto.trans (Onto.of_below k)⟩
theorem fillV_skip {h : Hd} {r : List Hd} {fs : List Int} {vals : List Vl} (hf : h.field = false) : fillV (h :: r) fs vals = fillV r fs vals := by
 conv => lhs; unfold fillV
 rw [if_neg (by simp [hf])]
theorem fillV_none {h : Hd} {r : List Hd} {vals : List Vl} : fillV (h :: r) [] vals = fillV r [] vals := by
 cases hf : h.field
 ·exact fillV_skip hf
 ·conv => lhs; unfold fillV
  rw [if_pos hf]
theorem fillV_some {h : Hd} {r : List Hd} {f : Int} {fs : List Int} {vals : List Vl} (hf : h.field = true) : fillV (h :: r) (f :: fs) vals = fillV r fs (vals.set h.name.toNat ⟨f, 0⟩) := by
 conv => lhs; unfold fillV
 rw [if_pos hf]
theorem num_ok {f : Int} (h : -9223372036854775808 ≤ f ∧ f ≤ 9223372036854775807) : VlOk ⟨f, 0⟩ := ⟨h, by simp, by simp⟩
theorem fillV_ok : ∀ (hs : List Hd) (fs : List Int) (vals : List Vl), (∀ x ∈ fs, -9223372036854775808 ≤ x ∧ x ≤ 9223372036854775807) → vals.length = 26 → (∀ v ∈ vals, VlOk v) → (fillV hs fs vals).length = 26 ∧ ∀ v ∈ fillV hs fs vals, VlOk v
 | [], fs, vals, _, hl, ho => ⟨hl, ho⟩
 | h :: r, fs, vals, hf, hl, ho => by
  cases e : h.field
  ·rw [fillV_skip e]; exact fillV_ok r fs vals hf hl ho
  ·cases fs with
   | nil => rw [fillV_none]; exact fillV_ok r [] vals hf hl ho
   | cons f g =>
    rw [fillV_some e]
    have k := StOk.set (s := (vals, [])) ⟨hl, ho⟩ (num_ok (hf f (by simp))) h.name.toNat []
    exact fillV_ok r g _ (fun x hx => hf x (by simp [hx])) k.len k.ok
set_option maxRecDepth 100000 in
set_option maxHeartbeats 1000000 in
theorem takeFields_any (b : Nat) (S P : Nat → Prop) (hs : List Hd) (fs : List Int) (s : SR) (vh vf : Value) (w : World) (hl : hs.length ≤ 1000) (hfl : fs.length ≤ 1000) (hfr : ∀ x ∈ fs, -9223372036854775808 ≤ x ∧ x ≤ 9223372036854775807) (hok : ∀ h ∈ hs, 0 ≤ h.name ∧ h.name < 26) (hso : StOk s) (hS : StateAt w b S s) (hv : HeadsV w P vh hs) (hf : IntsAt w P vf fs) (hP : ∀ k, P k → k < b) (hSb : ∀ k, S k → b < k) :
  Calls Tryz.prog 67 #[.pointer (some ⟨b, 0, none⟩), vh, vf] w fun e w' => e = .returned (.tuple #[]) ∧ StepAt b S w w' (fillV hs fs s.1, s.2) := by
 have hlt0 := hS.lt
 obtain ⟨ao, g, cap, rfl, hcap, hcells⟩ := heads_form hv
 have HC : Hid (∀ i, ∀ hi : i < hs.length, ao = some ⟨g, 0, none⟩ ∧ g < b ∧ w.cell? ⟨g, i * 4, none⟩ = some (.bool hs[i].field) ∧ w.cell? ⟨g, i * 4 + 1, none⟩ = some (.int .i64 hs[i].place) ∧ w.cell? ⟨g, i * 4 + 2, none⟩ = some (.int .i64 hs[i].name) ∧ w.cell? ⟨g, i * 4 + 3, none⟩ = some (.int .i64 hs[i].label)) := by
  intro i hi
  obtain ⟨e0, _, c⟩ := hcells i hi
  exact ⟨e0, hP g (hv.2 g (by rw [e0]; rfl)), c⟩
 obtain ⟨af, gf, capf, rfl, hff⟩ := hf.here
 have HF : Hid (∀ i, ∀ hi : i < fs.length, af = some ⟨gf, 0, none⟩ ∧ gf < b ∧ w.cell? ⟨gf, i, none⟩ = some (.int .i64 fs[i])) := by
  intro i hi
  obtain ⟨e0, e1, c⟩ := hff i hi
  exact ⟨e0, hP gf e1, c⟩
 have HOK : Hid _ := hok
 have HFR : Hid _ := hfr
 have HST0 : Hid (StepAt b S w w s) := StepAt.still hS (Below.refl _ _)
 have HSO : Hid (StOk s) := hso
 have HSB : Hid (∀ k, S k → b < k) := hSb
 generalize hR : fillV hs fs s.1 = R at *
 have HR : Hid (fillV hs fs s.1 = R) := hR
 obtain ⟨vals0, nts⟩ := s
 simp only at *
 clear hcells hv hf hff hok hfr hso hS hR hSb hP
 go_enter Tryz.func67, Tryz.ntmps67
 go_wp2_with fail
 go_loopw [6, 11] (fun x y w' => ∃ (k j : Nat) (vals : List Vl), y = .int .i64 k ∧ x = .int .i64 j ∧ k ≤ hs.length ∧ j ≤ fs.length ∧ Hid (StOk (vals, nts)) ∧ Hid (StepAt b S w w' (vals, nts)) ∧ Hid (fillV (hs.drop k) (fs.drop j) vals = R)) (fun _ y _ => hs.length - (intOf y).toNat)
 case atStart => exact ⟨0, 0, vals0, rfl, rfl, by omega, by omega, HSO, HST0, HR⟩
 case round =>
  obtain ⟨k, j, vals, rfl, rfl, hk, hj, HSK, HST, HL⟩ := hrel
  by_cases hlt : k < hs.length
  ·have tk : decide ((k : Int) < (hs.length : Int)) = true := by simp; omega
   obtain ⟨e0, hgb, c0, c1, c2, c3⟩ := HC.out k hlt
   obtain ⟨nm0, nm1⟩ := HOK.out hs[k] (List.getElem_mem hlt)
   have hBl : Below b w wr := HST.out.onto.below hlt0 HSB.out
   rw [← hBl.cell (p := ⟨g, k * 4, none⟩) hgb] at c0
   rw [← hBl.cell (p := ⟨g, k * 4 + 1, none⟩) hgb] at c1
   rw [← hBl.cell (p := ⟨g, k * 4 + 2, none⟩) hgb] at c2
   rw [← hBl.cell (p := ⟨g, k * 4 + 3, none⟩) hgb] at c3
   have hz : w.heap.size ≤ wr.heap.size := HST.out.onto.size
   have hlr : b < wr.heap.size := HST.out.state.lt
   have hstep := HL.out
   rw [List.drop_eq_getElem_cons hlt] at hstep
   generalize hp : hs[k] = p at *
   subst e0
   cases hfd : p.field
   ·rw [fillV_skip hfd] at hstep
    obtain ⟨fd, pl, nm, lb⟩ := p
    simp only at c0 c1 c2 c3 hfd nm0 nm1
    subst hfd
    have HS1 : Hid _ := hstep
    have HST1 : Hid (StepAt b S w (wr.alloc (.cells #[.bool false, .int .i64 pl, .int .i64 nm, .int .i64 lb] 146)) (vals, nts)) := HST.out.later ((Below.refl _ _).alloc (Nat.le_refl _) _)
    clear hstep hp hBl
    go_wp2_with fail
    go_roundw
    case rel => exact ⟨k + 1, j, vals, by go_num, rfl, by omega, by omega, HSK, HST1, HS1⟩
    case measure => simp [intOf]; omega
   ·by_cases hjl : j < fs.length
    ·rw [List.drop_eq_getElem_cons hjl, fillV_some hfd] at hstep
     have tj : decide ((j : Int) < (fs.length : Int)) = true := by simp; omega
     obtain ⟨f0, hgf, d0⟩ := HF.out j hjl
     rw [← hBl.cell (p := ⟨gf, j, none⟩) hgf] at d0
     have hfj := HFR.out fs[j] (List.getElem_mem hjl)
     generalize hf1 : fs[j] = f at *
     subst f0
     obtain ⟨fd, pl, nm, lb⟩ := p
     simp only at c0 c1 c2 c3 hfd nm0 nm1 hstep
     subst hfd
     obtain ⟨nn, rfl⟩ : ∃ nn : Nat, nm = nn := ⟨nm.toNat, by omega⟩
     rw [Int.toNat_natCast] at hstep
     have hnn : nn < 26 := by omega
     have HS1 : Hid _ := hstep
     have HST1 : Hid (StepAt b S w (wr.alloc (.cells #[.bool true, .int .i64 pl, .int .i64 nn, .int .i64 lb] 146)) (vals, nts)) := HST.out.later ((Below.refl _ _).alloc (Nat.le_refl _) _)
     have HSK1 : Hid (StOk (vals.set nn ⟨f, 0⟩, nts)) := StOk.set HSK.out (num_ok hfj) nn nts
     clear hstep hp hBl hf1
     go_upto_region 5 with fail
     generalize hW : wr.alloc (.cells #[.bool true, .int .i64 pl, .int .i64 nn, .int .i64 lb] 146) = W at *
     have k2 : W.cell? ⟨wr.heap.size, 2, none⟩ = some (.int .i64 nn) := by rw [← hW]; simp [go_sem]
     have hWB : Below wr.heap.size wr W := by rw [← hW]; exact (Below.refl _ _).alloc (Nat.le_refl _) _
     have k0 : W.cell? ⟨gf, j, none⟩ = some (.int .i64 f) := (hWB.cell (p := ⟨gf, j, none⟩) (by simp only; omega)).trans d0
     have hlW : b < W.heap.size := by have := hWB.size; omega
     obtain ⟨e0, e1⟩ := HST1.out.state.cell nn hnn
     have efz := HST1.out.state.fz
     simp only at e0 e1
     clear hW hWB c0 c1 c2 c3 d0 HST
     go_cut [11] from 11 to 36 (fun y wx => y = .int .i64 k ∧ StepAt b S w wx (vals.set nn ⟨f, 0⟩, nts))
     case first =>
      go_region_with (go_at_call 100; refine (number_any _ _).mono ?_; rintro e w1 ⟨rfl, hb1⟩; have hb1' := below_undrew hb1; have s0 := (hb1'.cell (p := ⟨b, nn * 2, none⟩) hlW).trans e0; have s1 := (hb1'.cell (p := ⟨b, nn * 2 + 1, none⟩) hlW).trans e1; have sf : ∀ o, w1.frozen? ⟨b, o, none⟩ = false := (fun o => (hb1'.frozen (p := ⟨b, o, none⟩) hlW).trans (efz o)); have k2 := (hb1'.cell (p := ⟨wr.heap.size, 2, none⟩) (World.block_lt_of_cell? W _ k2)).trans k2)
      all_goals (go_wp2_with fail; go_meet)
      all_goals exact ⟨rfl, ((HST1.out.later hb1').state.set HSK.out.len nn hnn ⟨f, 0⟩), ((HST1.out.later hb1').onto.setCell _ _).setCell _ _⟩
     case rest =>
      obtain ⟨rfl, hsx⟩ := hcut
      have HSX : Hid (StepAt b S w wc (vals.set nn ⟨f, 0⟩, nts)) := hsx
      clear hsx
      go_wp2_with fail
      go_roundw
      case rel => exact ⟨k + 1, j + 1, _, by go_num, by go_num, by omega, by omega, HSK1, HSX, HS1⟩
      case measure => simp [intOf]; omega
    ·rw [List.drop_of_length_le (l := fs) (by omega), fillV_none] at hstep
     have tj : decide ((j : Int) < (fs.length : Int)) = false := by simp; omega
     obtain ⟨fd, pl, nm, lb⟩ := p
     simp only at c0 c1 c2 c3 hfd nm0 nm1
     subst hfd
     have HS1 : Hid (fillV (hs.drop (k + 1)) (fs.drop j) vals = R) := by show _ = _; rw [List.drop_of_length_le (l := fs) (by omega)]; exact hstep
     have HST1 : Hid (StepAt b S w (wr.alloc (.cells #[.bool true, .int .i64 pl, .int .i64 nm, .int .i64 lb] 146)) (vals, nts)) := HST.out.later ((Below.refl _ _).alloc (Nat.le_refl _) _)
     clear hstep hp hBl
     go_wp2_with fail
     go_roundw
     case rel => exact ⟨k + 1, j, vals, by go_num, rfl, by omega, by omega, HSK, HST1, HS1⟩
     case measure => simp [intOf]; omega
  ·have tk : decide ((k : Int) < (hs.length : Int)) = false := by simp; omega
   have hfin : vals = R := by
    have := HL.out
    rw [List.drop_of_length_le (by omega)] at this
    exact this
   have HFN : Hid _ := hfin
   clear hfin
   go_wp2_with fail
   go_end0
   rw [← HFN.out]
   exact ⟨rfl, HST.out⟩
end Go.Proofs.YtdgmoiflahoihaaGreatDoor
namespace Go.Proofs.YtdgmoiflahoihaaGreatDoor
open Go.RowKit
set_option linter.unusedSimpArgs false
set_option linter.unusedVariables false
def vals0 : List Vl := List.replicate 26 vl0
def runP (t : List UInt8) (fs : List Int) : Int × List Nt :=
 if (checkP t).1 ≠ 0 then ((checkP t).1, [])
 else if fs.length ≠ countF (parseH t).2 then (6, [])
 else (0, (doF 9 (fillV (parseH t).2 fs vals0, []) (parseR t).2).2)
theorem checkP_ok {t : List UInt8} (h : (checkP t).1 = 0) : t.length ≤ 400 ∧ (parseR t).1.bad = false ∧ twiceL [] (parseH t).2 = none ∧ ¬ 5000 < workS 9 (parseR t).2 ∧ cleanF (labelsP (parseH t).2 (parseR t).2) 9 0 (parseR t).2 = none := by
 unfold checkP at h
 split at h
 ·exact absurd h (by simp)
 rename_i h1
 split at h
 ·exact absurd h (by simp)
 rename_i h2
 split at h
 ·exact absurd h (by simp)
 rename_i h3
 split at h
 ·exact absurd h (by simp)
 rename_i h4
 split at h
 ·exact absurd h (by simp)
 rename_i h5
 exact ⟨by omega, by simpa using h2, h3, h4, h5⟩
theorem text_full (s : ByteArray) (w : World) (hs : s.size ≤ maxLen) (hpo : s.size ≤ 400 → (parseR s.data.toList).1.bad = false → ParseOk s.data.toList) (h0 : (checkP s.data.toList).1 = 0) :
  Calls Tryz.prog 26 #[.string s] w fun e w' => ∃ vh vr, e = .returned (.agg (ok30 vh vr (labelsP (parseH s.data.toList).2 (parseR s.data.toList).2)).toArray) ∧ Below w.heap.size w w' ∧ HeadsV w' (fun k => w.heap.size ≤ k) vh (parseH s.data.toList).2 ∧ RulesV 9 w' (fun k => w.heap.size ≤ k) vr (parseR s.data.toList).2 := by
 obtain ⟨h1, h2, h3, h4, h5⟩ := checkP_ok h0
 have hsl : s.data.toList.length = s.size := by simp
 exact text_ok s w (by omega) (hpo (by omega) h2) h2 h3 h4 h5
set_option maxRecDepth 100000 in
set_option maxHeartbeats 2000000 in
theorem runText_err (s : ByteArray) (vf : Value) (w : World) (e : Int) (hs : s.size ≤ maxLen) (hpo : s.size ≤ 400 → (parseR s.data.toList).1.bad = false → ParseOk s.data.toList) (he : (checkP s.data.toList).1 = e) (hne : e ≠ 0) :
  Calls Tryz.prog 41 #[.string s, vf] w fun x w' => x = .returned (.tuple #[.slice none 0 0, .int .i64 e]) ∧ Below w.heap.size w w' := by
 have HPO : Hid _ := hpo
 have HE : Hid ((checkP s.data.toList).1 = e) := he
 clear hpo he
 have te : (e != 0) = true := by simpa using hne
 go_enter Tryz.func41, Tryz.ntmps41
 go_upto_region 2 with (first | (go_at_call 26; refine (text_any s _ hs HPO.out).mono ?_; rintro x1 w1 ⟨cs, rfl, htc, hb1⟩; have HTC : Hid (TextC s.data.toList cs) := htc; clear htc) | (refine wpList_store_row rfl 71 (.tmp 6) (.tmp 9) rfl w1.heap.size cs.toArray rfl rfl 71 (e30 0 0).toArray (by exact rules_new w1) (by rw [infoRules, HTC.out.size]) (by rw [HTC.out.size]; rfl) HTC.out.one ?_; rw [World.setRow_alloc_new]; simp only [Act.put]))
 have hs1 := hb1.size
 have hbW1 : Below w.heap.size w (w1.alloc (.cells cs.toArray 71)) := hb1.alloc (by omega) _
 have q0 : (w1.alloc (.cells cs.toArray 71)).cell? ⟨w1.heap.size, 0, none⟩ = some (.int .i64 (checkP s.data.toList).1) := by rw [cell_of_row _ _ _ _ _ _ (heap_alloc_new w1 _)]; simpa using HTC.out.cell0
 rw [HE.out] at q0
 generalize hgg : w1.heap.size = g1 at *
 generalize w1.alloc (.cells cs.toArray 71) = W1 at *
 have HBW : Hid (Below w.heap.size w W1) := hbW1
 clear hbW1 hb1 hgg
 go_wp2_with fail
 go_region
 all_goals go_wp2_with fail
 all_goals go_ret2
 all_goals exact ⟨rfl, HBW.out.drew⟩
theorem ownsRow_base {w : World} {base base' size n : Nat} {e : TypeId} {v : Value} {xs : List Value} (h : w.ownsRow base e size v n xs) (hb : base' ≤ base) : w.ownsRow base' e size v n xs := by
 refine ⟨h.1, ?_⟩
 rcases h.2 with h0 | ⟨g, cap, cur, h1, h2, h3⟩
 ·exact .inl h0
 ·exact .inr ⟨g, cap, cur, h1, by omega, h3⟩
def st53 : List Value := vlCells vals0 ++ [.slice none 0 0]
theorem st53_lit : #[.int .i64 0, .int .i64 0, .int .i64 0, .int .i64 0, .int .i64 0, .int .i64 0, .int .i64 0, .int .i64 0, .int .i64 0, .int .i64 0, .int .i64 0, .int .i64 0, .int .i64 0, .int .i64 0, .int .i64 0, .int .i64 0, .int .i64 0, .int .i64 0, .int .i64 0, .int .i64 0, .int .i64 0, .int .i64 0, .int .i64 0, .int .i64 0, .int .i64 0, .int .i64 0, .int .i64 0, .int .i64 0, .int .i64 0, .int .i64 0, .int .i64 0, .int .i64 0, .int .i64 0, .int .i64 0, .int .i64 0, .int .i64 0, .int .i64 0, .int .i64 0, .int .i64 0, .int .i64 0, .int .i64 0, .int .i64 0, .int .i64 0, .int .i64 0, .int .i64 0, .int .i64 0, .int .i64 0, .int .i64 0, .int .i64 0, .int .i64 0, .int .i64 0, .int .i64 0, .slice none 0 0] = st53.toArray := rfl
theorem state_new (w : World) (t : TypeId) : StateAt (w.alloc (.cells st53.toArray t)) w.heap.size (fun _ => False) (vals0, []) := by
 have hh := heap_alloc_new w (.cells st53.toArray t)
 refine ⟨fun k hk => ?_, ⟨.slice none 0 0, ?_, World.ownsRow_nil .., fun k hk => by cases hk⟩, fun o => by unfold World.frozen?; rw [hh]; simp⟩
 ·obtain ⟨d0, d1⟩ := vlCells_at vals0 k (by unfold vals0; simpa using hk)
  have e : vals0.getD k vl0 = vals0[k]'(by unfold vals0; simpa using hk) := by rw [List.getD_eq_getElem?_getD, List.getElem?_eq_getElem (by unfold vals0; simpa using hk)]; rfl
  have hl : (vlCells vals0).length = 52 := by rw [vlCells_len]; rfl
  simp only
  rw [e]
  constructor
  ·rw [cell_of_row _ _ _ _ _ _ hh]
   unfold st53
   rw [List.getElem?_toArray, List.getElem?_append_left (by omega)]
   exact d0
  ·rw [cell_of_row _ _ _ _ _ _ hh]
   unfold st53
   rw [List.getElem?_toArray, List.getElem?_append_left (by omega)]
   exact d1
 ·rw [cell_of_row _ _ _ _ _ _ hh]
  rfl
set_option maxRecDepth 100000 in
set_option maxHeartbeats 2000000 in
theorem runText_ok (s : ByteArray) (fs : List Int) (vf : Value) (w : World) (P : Nat → Prop) (hs : s.size ≤ maxLen) (hpo : s.size ≤ 400 → (parseR s.data.toList).1.bad = false → ParseOk s.data.toList) (hnm : (checkP s.data.toList).1 = 0 → NumsOk 9 (parseR s.data.toList).2) (h0 : (checkP s.data.toList).1 = 0) (hf : IntsAt w P vf fs) (hP : ∀ k, P k → k < w.heap.size) (hfl : fs.length ≤ maxLen) (hfr : ∀ x ∈ fs, -9223372036854775808 ≤ x ∧ x ≤ 9223372036854775807) :
  Calls Tryz.prog 41 #[.string s, vf] w fun x w' => (∃ vn, x = .returned (.tuple #[vn, .int .i64 (runP s.data.toList fs).1]) ∧ ((runP s.data.toList fs).1 ≠ 0 → vn = .slice none 0 0) ∧ w'.ownsRow w.heap.size 61 5 vn (runP s.data.toList fs).2.length (ntCells (runP s.data.toList fs).2)) ∧ Below w.heap.size w w' := by
 obtain ⟨h1, h2, h3, h4, h5⟩ := checkP_ok h0
 have hsl : s.data.toList.length = s.size := by simp
 have hpok := hpo (by omega) h2
 have hnums := hnm h0
 have HT : Hid _ := fun w => text_full s w hs hpo h0
 have hrun : runP s.data.toList fs = if fs.length ≠ countF (parseH s.data.toList).2 then (6, []) else (0, (doF 9 (fillV (parseH s.data.toList).2 fs vals0, []) (parseR s.data.toList).2).2) := by unfold runP; rw [if_neg (by simpa using h0)]
 generalize hRP : runP s.data.toList fs = RP at *
 generalize hHe : parseH s.data.toList = H at *
 generalize hRe : parseR s.data.toList = R at *
 unfold maxLen at hfl
 obtain ⟨hhd, hfew, htree, hwork⟩ := hpok
 rw [hHe] at hhd hfew
 rw [hRe] at htree hwork
 generalize hLb : labelsP H.2 R.2 = Lb at *
 have hLl : Lb.length = 26 := by rw [← hLb]; exact (labelsP_ok hhd htree).len
 have hcl : countF H.2 ≤ 1000 := Nat.le_trans (List.length_filter_le _ _) hfew
 obtain ⟨af, gf, capf, hvf, hff⟩ := hf.here
 have HF : Hid (IntsAt w P vf fs) := hf
 subst hvf
 have HHD : Hid _ := hhd
 have HTR : Hid (TreeOk 9 R.2) := htree
 have HNU : Hid (NumsOk 9 R.2) := hnums
 have HPW : Hid (∀ k, P k → k < w.heap.size) := hP
 have HFR : Hid _ := hfr
 have HRUN : Hid _ := hrun
 clear h0 h1 h2 h3 h5 hpo hnm hff hf hP hhd htree hnums hfr hrun hRP hHe hRe hLb hs
 go_enter Tryz.func41, Tryz.ntmps41
 go_upto_region 2 with (first | (go_at_call 26; refine (HT.out _).mono ?_; rintro x1 w1 ⟨vh, vr, rfl, hb1, hvh, hvr⟩; obtain ⟨ah, nh, ch, hvhe⟩ : ∃ aa nn cc, vh = .slice aa nn cc := (by rcases Joins.ownsRow_forms hvh.1 with ⟨rfl, _⟩ | ⟨g, cap, rfl⟩ <;> exact ⟨_, _, _, rfl⟩); obtain ⟨ar, nr, cr, hvre⟩ := rulesV_form hvr; subst hvhe; subst hvre) | (refine wpList_store_row rfl 71 (.tmp 6) (.tmp 9) rfl w1.heap.size (ok30 (.slice ah nh ch) (.slice ar nr cr) Lb).toArray rfl rfl 71 (e30 0 0).toArray (by exact rules_new w1) (by rw [infoRules, ok30_size _ _ _ hLl]) (by rw [ok30_size _ _ _ hLl]; rfl) (ok30_one _ _ _ _ _ _ _) ?_; rw [World.setRow_alloc_new]; simp only [Act.put]))
 have hs1 := hb1.size
 generalize hW : w1.alloc (.cells (ok30 (.slice ah nh ch) (.slice ar nr cr) Lb).toArray 71) = W1
 have hB1 : Below w1.heap.size w1 W1 := by rw [← hW]; exact (Below.refl _ _).alloc (Nat.le_refl _) _
 have hWs : W1.heap.size = w1.heap.size + 1 := by rw [← hW]; simp
 have q0 : W1.cell? ⟨w1.heap.size, 0, none⟩ = some (.int .i64 0) := by rw [← hW, cell_of_row _ _ _ _ _ _ (heap_alloc_new w1 _)]; rfl
 have q2 : W1.cell? ⟨w1.heap.size, 2, none⟩ = some (.slice ah nh ch) := by rw [← hW, cell_of_row _ _ _ _ _ _ (heap_alloc_new w1 _)]; rfl
 have q3 : W1.cell? ⟨w1.heap.size, 3, none⟩ = some (.slice ar nr cr) := by rw [← hW, cell_of_row _ _ _ _ _ _ (heap_alloc_new w1 _)]; rfl
 have HVH : Hid (HeadsV W1 (fun k => w.heap.size ≤ k) (.slice ah nh ch) H.2) := headsV_frame hvh (fun k hk hl => ⟨hk, hB1.block k hl⟩)
 have HVR : Hid (RulesV 9 W1 (fun k => w.heap.size ≤ k) (.slice ar nr cr) R.2) := rulesV_frame (fun k hk hl => ⟨hk, hB1.block k hl⟩) 9 _ _ hvr
 have HBW : Hid (Below w.heap.size w W1) := hb1.trans (hB1.mono (by omega))
 generalize hgg : w1.heap.size = g1 at *
 have hg1 : g1 < W1.heap.size := by omega
 clear hvh hvr hB1 hW hb1 hgg
 by_cases hne : fs.length = countF H.2
 ·have tn : ((fs.length : Int) != (countF H.2 : Int)) = false := by simp [hne]
  have hfl2 : fs.length ≤ 1000 := by omega
  have hR := HRUN.out
  rw [if_neg (by simpa using hne)] at hR
  generalize hfin : doF 9 (fillV H.2 fs vals0, []) R.2 = FIN at *
  have HFIN : Hid (doF 9 (fillV H.2 fs vals0, []) R.2 = FIN) := hfin
  have hR1 : RP.1 = 0 := by rw [hR]
  have hR2 : RP.2 = FIN.2 := by rw [hR]
  have HR1 : Hid (RP.1 = 0) := hR1
  have HR2 : Hid (RP.2 = FIN.2) := hR2
  clear hfin hR hR1 hR2 HRUN hne
  go_upto_region 7 with (first | (go_at_call 66; refine (countFields_any H.2 _ _ _ hfew HVH.out).mono ?_; rintro x2 w2 ⟨rfl, hb2⟩))
  rw [st53_lit]
  have hs2 := hb2.size
  have hS0 := state_new w2 127
  generalize hW3 : w2.alloc (.cells st53.toArray 127) = W3 at *
  have hB3 : Below w2.heap.size w2 W3 := by rw [← hW3]; exact (Below.refl _ _).alloc (Nat.le_refl _) _
  have hWs3 : W3.heap.size = w2.heap.size + 1 := by rw [← hW3]; simp
  have hB13 : Below W1.heap.size W1 W3 := hb2.trans (hB3.mono (by omega))
  have r2 : W3.cell? ⟨g1, 2, none⟩ = some (.slice ah nh ch) := (hB13.cell (p := ⟨g1, 2, none⟩) hg1).trans q2
  have r3 : W3.cell? ⟨g1, 3, none⟩ = some (.slice ar nr cr) := (hB13.cell (p := ⟨g1, 3, none⟩) hg1).trans q3
  have HB3 : Hid (Below w.heap.size w W3) := HBW.out.trans (hB13.mono HBW.out.size)
  have HVH3 : Hid (HeadsV W3 (fun k => k < w2.heap.size) (.slice ah nh ch) H.2) := headsV_frame HVH.out (fun k hk hl => ⟨by omega, hB13.block k hl⟩)
  have HVR3 : Hid (RulesV 9 W3 (fun k => k < w2.heap.size) (.slice ar nr cr) R.2) := rulesV_frame (fun k hk hl => ⟨by omega, hB13.block k hl⟩) 9 _ _ HVR.out
  have hww : w.heap.size ≤ W1.heap.size := HBW.out.size
  have HF3 : Hid (IntsAt W3 (fun k => k < w2.heap.size) (.slice af fs.length capf) fs) := HF.out.frame (fun k hk hl => ⟨by omega, HB3.out.block k hl⟩)
  generalize hbb : w2.heap.size = b at *
  have hbW : b < W3.heap.size := by omega
  have hgb : g1 < b := by omega
  have hwb : w.heap.size ≤ b := by omega
  have HS0 : Hid (StateAt W3 b (fun _ => False) (vals0, [])) := hS0
  clear hS0 hW3 hB3 hB13 hWs3 hb2 hbb q0 q2 q3 HVH HVR HF HBW hs2 hWs hs1
  have HOV : Hid (StOk (vals0, [])) := ⟨rfl, fun v hv => by have := List.eq_of_mem_replicate hv; rw [this]; exact vl0_ok⟩
  have HSB : Hid (∀ k, (False ∨ W3.heap.size ≤ k) → b < k) := fun k hk => by rcases hk with hk | hk; exact hk.elim; omega
  have HHN : Hid (∀ h ∈ H.2, 0 ≤ h.name ∧ h.name < 26) := fun h hh => ⟨(HHD.out h hh).1, (HHD.out h hh).2.1⟩
  have hfo := fillV_ok H.2 fs vals0 HFR.out HOV.out.len HOV.out.ok
  have HFO : Hid (StOk (fillV H.2 fs vals0, [])) := ⟨hfo.1, hfo.2⟩
  clear hfo
  have HWK : Hid (0 + workS 9 R.2 ≤ 100000) := by show _ ≤ _; omega
  go_upto_region 8 with (first | (go_at_call 67; refine (takeFields_any b (fun _ => False) (fun k => k < b) H.2 fs (vals0, []) _ _ _ hfew hfl2 HFR.out HHN.out HOV.out HS0.out HVH3.out HF3.out (fun k hk => hk) (fun k hk => hk.elim)).mono ?_; rintro x4 w4 ⟨rfl, hs4⟩))
  have hB4 : Below b W3 w4 := hs4.onto.below hbW (fun k hk => hk.elim)
  have r4 : w4.cell? ⟨g1, 3, none⟩ = some (.slice ar nr cr) := (hB4.cell (p := ⟨g1, 3, none⟩) hgb).trans r3
  have HVR4 : Hid (RulesV 9 w4 (fun k => k < b) (.slice ar nr cr) R.2) := rulesV_lower HVR3.out (fun k hk => hk) hB4
  have HS4 : Hid (StepAt b (fun _ => False) W3 w4 (fillV H.2 fs vals0, [])) := hs4
  clear hB4 hs4 r2 r3 HVR3 HVH3 HF3 HS0
  go_wp2_with (first | (go_at_call 68; refine (doAll_any 9 b _ (fillV H.2 fs vals0, []) R.2 (fun k => k < b) _ _ HTR.out HNU.out HFO.out HWK.out HS4.out.state HVR4.out (fun k hk => hk) HSB.out).mono ?_; rw [HFIN.out]; rintro x5 w5 ⟨rfl, hs5⟩; obtain ⟨vn, hvn, hon, _⟩ := hs5.state.row; have HS5 : Hid (StepAt b (fun _ => False) W3 w5 FIN) := HS4.out.trans hs5; clear hs5))
  go_ret2
  refine ⟨⟨vn, ?_, fun hx => absurd HR1.out hx, ?_⟩, HB3.out.trans ((HS5.out.onto.below hbW (fun k hk => hk.elim)).mono hwb)⟩
  ·rw [HR1.out]; rfl
  ·rw [HR2.out]
   exact ownsRow_base (show w5.ownsRow (b + 1) 61 5 vn FIN.2.length (ntCells FIN.2) from hon) (by omega)
 ·have tn : ((fs.length : Int) != (countF H.2 : Int)) = true := by simp; omega
  have hR := HRUN.out
  rw [if_pos (by simpa using hne)] at hR
  have HR : Hid (RP = (6, [])) := hR
  clear hR HRUN
  go_wp2_with (first | (go_at_call 66; refine (countFields_any H.2 _ _ _ hfew HVH.out).mono ?_; rintro x2 w2 ⟨rfl, hb2⟩))
  go_ret2
  rw [HR.out]
  exact ⟨⟨_, rfl, fun _ => rfl, World.ownsRow_nil ..⟩, HBW.out.trans (hb2.mono HBW.out.size)⟩
def RunPost (w : World) (r : Int × List Nt) (x : Ending) (w' : World) : Prop :=
 (∃ vn, x = .returned (.tuple #[vn, .int .i64 r.1]) ∧ (r.1 ≠ 0 → vn = .slice none 0 0) ∧ w'.ownsRow w.heap.size 61 5 vn r.2.length (ntCells r.2)) ∧ Below w.heap.size w w'
theorem runText_any (s : ByteArray) (fs : List Int) (vf : Value) (w : World) (P : Nat → Prop) (hs : s.size ≤ maxLen) (hpo : s.size ≤ 400 → (parseR s.data.toList).1.bad = false → ParseOk s.data.toList) (hnm : (checkP s.data.toList).1 = 0 → NumsOk 9 (parseR s.data.toList).2) (hf : IntsAt w P vf fs) (hP : ∀ k, P k → k < w.heap.size) (hfl : fs.length ≤ maxLen) (hfr : ∀ x ∈ fs, -9223372036854775808 ≤ x ∧ x ≤ 9223372036854775807) :
  Calls Tryz.prog 41 #[.string s, vf] w (RunPost w (runP s.data.toList fs)) := by
 by_cases h0 : (checkP s.data.toList).1 = 0
 ·exact runText_ok s fs vf w P hs hpo hnm h0 hf hP hfl hfr
 ·refine (runText_err s vf w _ hs hpo rfl h0).mono ?_
  rintro e w' ⟨rfl, hb⟩
  have : runP s.data.toList fs = ((checkP s.data.toList).1, []) := by unfold runP; rw [if_pos h0]
  rw [this]
  exact ⟨⟨_, rfl, fun _ => rfl, World.ownsRow_nil ..⟩, hb⟩
end Go.Proofs.YtdgmoiflahoihaaGreatDoor
namespace Go.Proofs.YtdgmoiflahoihaaGreatDoor
open Go.RowKit
set_option linter.unusedSimpArgs false
set_option linter.unusedVariables false
set_option maxRecDepth 100000 in
set_option maxHeartbeats 2000000 in
theorem tariffRun_any (s : ByteArray) (fs : List Int) (vf : Value) (w : World) (P : Nat → Prop) (hs : s.size ≤ maxLen) (hpo : s.size ≤ 400 → (parseR s.data.toList).1.bad = false → ParseOk s.data.toList) (hnm : (checkP s.data.toList).1 = 0 → NumsOk 9 (parseR s.data.toList).2) (hf : IntsAt w P vf fs) (hP : ∀ k, P k → k < w.heap.size) (hfl : fs.length ≤ maxLen) (hfr : ∀ x ∈ fs, -9223372036854775808 ≤ x ∧ x ≤ 9223372036854775807) :
  Calls Tryz.prog 18 #[.string s, vf] w (RunPost w (runP s.data.toList fs)) := by
 have H : Calls Tryz.prog 41 #[.string s, vf] w (RunPost w (runP s.data.toList fs)) := runText_any s fs vf w P hs hpo hnm hf hP hfl hfr
 generalize runP s.data.toList fs = RP at *
 have HH : Hid (Calls Tryz.prog 41 #[.string s, vf] w (RunPost w RP)) := H
 clear H hpo hnm hf hP hfr
 go_enter Tryz.func18, Tryz.ntmps18
 go_wp2_with fail
 refine HH.out.mono ?_
 rintro e w1 ⟨⟨vn, rfl, h1, h2⟩, hb⟩
 go_wp2_with fail
 go_ret2
 exact ⟨⟨vn, rfl, h1, h2⟩, hb⟩
end Go.Proofs.YtdgmoiflahoihaaGreatDoor
namespace Go.Proofs.YtdgmoiflahoihaaGreatDoor
set_option linter.unusedSimpArgs false
set_option linter.unusedVariables false
theorem numF_in (t : List UInt8) : ∀ (n : Nat) (r : Rd) (v B : Int), 0 ≤ v → v < B → 0 ≤ (Rd.numF t n r v).2 ∧ (Rd.numF t n r v).2 < B * 10 ^ n
 | 0, r, v, B, h0, h1 => ⟨h0, by simpa [Rd.numF] using h1⟩
 | n + 1, r, v, B, h0, h1 => by
  have hp : (0 : Int) < 10 ^ n := Int.pow_pos (by decide)
  have e : B * 10 ^ (n + 1) = B * 10 * 10 ^ n := by rw [Int.pow_succ, Int.mul_assoc, Int.mul_comm (10 ^ n) 10]
  rw [e]
  unfold Rd.numF
  split
  ·have d := digit_le t r
   exact numF_in t n _ _ (B * 10) (by omega) (by omega)
  ·refine ⟨h0, ?_⟩
   have h2 : B * 10 * 1 ≤ B * 10 * 10 ^ n := Int.mul_le_mul_of_nonneg_left (by omega) (by omega)
   simp only
   omega
theorem number_in (t : List UInt8) (r : Rd) : -9223372036854775808 ≤ (r.number t).2 ∧ (r.number t).2 ≤ 9223372036854775807 := by
 have d := digit_le t r
 have h := numF_in t 17 (r.takeOne t 48 57).1 (r.takeOne t 48 57).2 10 d.1 (by omega)
 unfold Rd.number
 have e : (10 : Int) * 10 ^ 17 = 1000000000000000000 := by decide
 rw [e] at h
 omega
theorem takeOne_in (t : List UInt8) (r : Rd) (a b : UInt8) : -9223372036854775808 ≤ (r.takeOne t a b).2 ∧ (r.takeOne t a b).2 ≤ 9223372036854775807 := by
 unfold Rd.takeOne
 split
 ·have h1 := (t.getD r.pos 0).toNat_lt
  have h2 := a.toNat_lt
  constructor <;> simp only <;> omega
 ·simp
def PN (x : RP) : Prop := ∀ p ∈ x.2, PtNum p
theorem pn_app {r r' : Rd} {l m : List Pt} (h : PN (r, l)) (k : ∀ p ∈ m, PtNum p) : PN (r', l ++ m) := by
 intro p hp
 rcases List.mem_append.mp hp with e | e
 ·exact h p e
 ·exact k p e
theorem pn_one {r r' : Rd} {l : List Pt} (h : PN (r, l)) (op : Int) {v : Int} (hv : -9223372036854775808 ≤ v ∧ v ≤ 9223372036854775807) : PN (r', l ++ [⟨op, v⟩]) :=
 pn_app h (by intro p hp; simp at hp; subst hp; exact hv)
theorem plainU_pn {t : List UInt8} {cmp : RP → RP} (hc : ∀ x, PN x → PN (cmp x)) {x : RP} (h : PN x) : PN (plainU t cmp x) := by
 unfold plainU
 split
 ·exact pn_one h 1 (number_in t x.1)
 split
 ·exact pn_one h 2 (takeOne_in t x.1 97 122)
 split
 ·exact hc _ h
 ·exact h
theorem unitU_pn {t : List UInt8} {cmp : RP → RP} (hc : ∀ x, PN x → PN (cmp x)) {x : RP} (h : PN x) : PN (unitU t cmp x) := by
 unfold unitU
 have k := plainU_pn (t := t) hc (x := ((minusF t (t.length + 1) x.1).1, x.2)) h
 refine pn_app (r := (plainU t cmp ((minusF t (t.length + 1) x.1).1, x.2)).1) k ?_
 intro p hp
 have := List.eq_of_mem_replicate hp
 subst this
 exact ⟨by decide, by decide⟩
theorem prodL_pn {t : List UInt8} {cmp : RP → RP} (hc : ∀ x, PN x → PN (cmp x)) : ∀ (n : Nat) (x : RP), PN x → PN (prodL t cmp n x)
 | 0, x, h => h
 | n + 1, x, h => by
  unfold prodL
  simp only
  split
  ·exact h
  ·refine prodL_pn hc n _ ?_
   exact pn_one (r := (unitU t cmp ((x.1.prodOper t).1, x.2)).1) (unitU_pn hc (x := ((x.1.prodOper t).1, x.2)) h) _ (by decide)
theorem prodU_pn {t : List UInt8} {cmp : RP → RP} (hc : ∀ x, PN x → PN (cmp x)) {x : RP} (h : PN x) : PN (prodU t cmp x) := prodL_pn hc _ _ (unitU_pn hc h)
theorem sumL_pn {t : List UInt8} {cmp : RP → RP} (hc : ∀ x, PN x → PN (cmp x)) : ∀ (n : Nat) (x : RP), PN x → PN (sumL t cmp n x)
 | 0, x, h => h
 | n + 1, x, h => by
  unfold sumL
  simp only
  split
  ·exact h
  ·refine sumL_pn hc n _ ?_
   exact pn_one (r := (prodU t cmp ((x.1.oper t 43 4 45 5).1, x.2)).1) (prodU_pn hc (x := ((x.1.oper t 43 4 45 5).1, x.2)) h) _ (by decide)
theorem sumU_pn {t : List UInt8} {cmp : RP → RP} (hc : ∀ x, PN x → PN (cmp x)) {x : RP} (h : PN x) : PN (sumU t cmp x) := sumL_pn hc _ _ (prodU_pn hc h)
theorem cmpU_pn {t : List UInt8} {cmp : RP → RP} (hc : ∀ x, PN x → PN (cmp x)) {x : RP} (h : PN x) : PN (cmpU t cmp x) := by
 unfold cmpU
 simp only
 split
 ·exact sumU_pn hc h
 ·exact pn_one (r := (sumU t cmp (((sumU t cmp x).1.oper t 60 9 61 10).1, (sumU t cmp x).2)).1) (sumU_pn hc (x := (((sumU t cmp x).1.oper t 60 9 61 10).1, (sumU t cmp x).2)) (sumU_pn hc h)) _ (by decide)
theorem cmpF_pn (t : List UInt8) : ∀ (n : Nat) (x : RP), PN x → PN (cmpF t n x)
 | 0, x, h => h
 | n + 1, x, h => cmpU_pn (fun y hy => cmpF_pn t n y hy) h
theorem expr_pn (t : List UInt8) (r : Rd) : ∀ p ∈ (exprU t r).2, PtNum p := by
 have h : PN (cmpF t 10 (r, [])) := cmpF_pn t 10 (r, []) (by intro p hp; simp at hp)
 unfold exprU
 exact h
theorem ruleU_pn {α : Type} {t : List UInt8} {blk : Rd → Rd × List α} {ok : List α → Prop} (hn : ok []) (hb : ∀ r, ok (blk r).2) (r : Rd) : (∀ p ∈ (ruleU t blk r).2.1.parts, PtNum p) ∧ ok (ruleU t blk r).2.2.1 ∧ ok (ruleU t blk r).2.2.2 := by
 unfold ruleU
 split
 ·exact ⟨expr_pn t _, hn, hn⟩
 split
 ·exact ⟨expr_pn t _, hn, hn⟩
 split
 ·exact ⟨expr_pn t _, hn, hn⟩
 split
 ·simp only
  split
  ·exact ⟨expr_pn t _, hb _, hb _⟩
  ·exact ⟨expr_pn t _, hb _, hn⟩
 split
 ·exact ⟨by intro p hp; simp at hp, hb _, hn⟩
 ·exact ⟨by intro p hp; simp [Core.none] at hp, hn, hn⟩
theorem rulesL_pn {α : Type} {rule : Rd → Rd × α} {halt : Rd → Bool} {one : α → Prop} (hr : ∀ r, one (rule r).2) : ∀ (k : Nat) (r : Rd), ∀ q ∈ (rulesL rule halt k r).2, one q
 | 0, r => by intro q hq; simp [rulesL] at hq
 | k + 1, r => by
  unfold rulesL
  split
  ·intro q hq; simp at hq
  ·intro q hq
   rcases List.mem_cons.mp hq with e | e
   ·rw [e]; exact hr r
   ·exact rulesL_pn hr k _ q e
theorem nums_nil : ∀ n, NumsOk n []
 | 0 => trivial
 | n + 1 => by intro q hq; cases hq
theorem blockF_pn (t : List UInt8) : ∀ (n : Nat) (r : Rd), NumsOk n (blockF t n r).2
 | 0, r => trivial
 | n + 1, r => by
  show NumsOk (n + 1) (blockU t (α := RT (n + 1)) (fun r => ruleU t (blockF t n) r) r).2
  unfold blockU
  exact rulesL_pn (α := RT (n + 1)) (one := fun q : RT (n + 1) => (∀ p ∈ (show Core × List (RT n) × List (RT n) from q).1.parts, PtNum p) ∧ NumsOk n (show Core × List (RT n) × List (RT n) from q).2.1 ∧ NumsOk n (show Core × List (RT n) × List (RT n) from q).2.2) (fun r => ruleU_pn (nums_nil n) (fun r => blockF_pn t n r) r) _ _
theorem parse_nums (t : List UInt8) : NumsOk 9 (parseR t).2 := by
 unfold parseR
 exact rulesL_pn (α := RT 9) (one := fun q : RT 9 => (∀ p ∈ (show Core × List (RT 8) × List (RT 8) from q).1.parts, PtNum p) ∧ NumsOk 8 (show Core × List (RT 8) × List (RT 8) from q).2.1 ∧ NumsOk 8 (show Core × List (RT 8) × List (RT 8) from q).2.2) (fun r => ruleU_pn (nums_nil 8) (fun r => blockF_pn t 8 r) r) _ _
end Go.Proofs.YtdgmoiflahoihaaGreatDoor
