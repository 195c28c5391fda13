import Derived.Test.YtdgmoiflahoihabRDox
import Derived.RegionTactic

namespace Go.Proofs.Ytdgmoiflahoihab
open Go.RowKit
set_option linter.unusedSimpArgs false
set_option linter.unusedVariables false
def countF (l : List Hd) : Nat := (l.filter (·.field)).length
def fillV : List Hd → List Int → List Vl → List Vl
 | [], _, vals => vals
 | h :: r, fs, vals => if h.field then (match fs with | [] => fillV r [] vals | f :: g => fillV r g (vals.set h.name.toNat ⟨f, 0⟩)) else fillV r fs vals
theorem countF_cons (h : Hd) (r : List Hd) : countF (h :: r) = (if h.field then 1 else 0) + countF r := by
 unfold countF
 cases e : h.field <;> simp [e]; omega
set_option maxRecDepth 100000 in
set_option maxHeartbeats 1000000 in
theorem countFields_any (l : List Hd) (P : Nat → Prop) (v : Value) (w : World) (hl : l.length ≤ 1000) (hv : HeadsV w P v l) :
  Calls Try.prog 20 #[v] w fun e w' => e = .returned (.int .i64 (countF l : Nat)) ∧ Below w.heap.size w w' := by
 obtain ⟨ao, g, cap, rfl, hcap, hcells⟩ := heads_form hv
 clear hv
 have HC : Hid (HeadCells w ao g l) := hcells
 clear hcells
 have hcl : countF l ≤ l.length := List.length_filter_le _ _
 have HR : Hid (0 + countF l = countF l) := by show _ = _; omega
 generalize hR : countF l = R at *
 have HR2 : Hid (countF l = R) := hR
 clear hR
 go_enter Try.func20, Try.ntmps20
 go_wp2_with fail
 go_loopw [3, 8] (fun x y w' => ∃ (k a : Nat), y = .int .i64 k ∧ x = .int .i64 a ∧ k ≤ l.length ∧ a ≤ k ∧ Hid (Below w.heap.size w w') ∧ Hid (a + countF (l.drop k) = R)) (fun _ y _ => l.length - (intOf y).toNat)
 case atStart => exact ⟨0, 0, rfl, rfl, by omega, by omega, Below.refl _ _, by show _ = _; have := HR2.out; simpa using this⟩
 case round =>
  obtain ⟨k, a, rfl, rfl, hk, hak, HW, HL⟩ := hrel
  by_cases hlt : k < l.length
  ·have tk : decide ((k : Int) < (l.length : Int)) = true := by simp; omega
   obtain ⟨e0, hg, c0, c1, c2, c3⟩ := HC.out k hlt
   rw [← HW.out.cell (p := ⟨g, k * 4, none⟩) hg] at c0
   rw [← HW.out.cell (p := ⟨g, k * 4 + 1, none⟩) hg] at c1
   rw [← HW.out.cell (p := ⟨g, k * 4 + 2, none⟩) hg] at c2
   rw [← HW.out.cell (p := ⟨g, k * 4 + 3, none⟩) hg] at c3
   have hz : w.heap.size ≤ wr.heap.size := HW.out.size
   have hstep := HL.out
   rw [List.drop_eq_getElem_cons hlt, countF_cons] at hstep
   generalize hp : l[k] = p at *
   obtain ⟨fd, pl, nm, lb⟩ := p
   simp only at c0 c1 c2 c3 hstep
   subst e0
   cases fd
   ·have HS : Hid (a + countF (l.drop (k + 1)) = R) := by show _ = _; simpa using hstep
    clear hstep hp
    go_wp2_with fail
    go_roundw
    case rel => exact ⟨k + 1, a, by go_num, rfl, by omega, by omega, HW.out.alloc (by omega) _, HS⟩
    case measure => simp [intOf]; omega
   ·have HS : Hid (a + 1 + countF (l.drop (k + 1)) = R) := by show _ = _; simp at hstep; omega
    clear hstep hp
    go_wp2_with fail
    go_roundw
    case rel => exact ⟨k + 1, a + 1, by go_num, by go_num, by omega, by omega, HW.out.alloc (by omega) _, HS⟩
    case measure => simp [intOf]; omega
  ·have tk : decide ((k : Int) < (l.length : Int)) = false := by simp; omega
   have hfin : a = R := by
    have := HL.out
    rw [List.drop_of_length_le (by omega)] at this
    exact this
   have HF : Hid _ := hfin
   clear hfin
   go_wp2_with fail
   go_ret
   exact ⟨ret_int (by rw [HF.out]), HW.out⟩
structure IntsAt (w : World) (P : Nat → Prop) (v : Value) (l : List Int) : Prop where
 here : ∃ ao g cap, v = .slice ao l.length cap ∧ ∀ i, ∀ hi : i < l.length, ao = some ⟨g, 0, none⟩ ∧ P g ∧ w.cell? ⟨g, i, none⟩ = some (.int .i64 l[i])
theorem IntsAt.frame {w w' : World} {P Q : Nat → Prop} {v : Value} {l : List Int} (h : IntsAt w P v l) (hk : ∀ k, P k → k < w.heap.size → Q k ∧ w'.heap[k]? = w.heap[k]?) : IntsAt w' Q v l := by
 obtain ⟨ao, g, cap, hv, hc⟩ := h.here
 refine ⟨ao, g, cap, hv, fun i hi => ?_⟩
 obtain ⟨a, b, c⟩ := hc i hi
 have hlt := World.block_lt_of_cell? w _ c
 obtain ⟨q1, q2⟩ := hk g b hlt
 exact ⟨a, q1, (World.cell?_of_block (a := ⟨g, i, none⟩) q2).trans c⟩
theorem StepAt.later {b : Nat} {S : Nat → Prop} {w w1 w2 : World} {s : SR} (h : StepAt b S w w1 s) (k : Below w1.heap.size w1 w2) : StepAt b S w w2 s :=
 ⟨h.state.keep k (Nat.le_refl _), h.onto.trans (Onto.of_below k)⟩
theorem fillV_skip {h : Hd} {r : List Hd} {fs : List Int} {vals : List Vl} (hf : h.field = false) : fillV (h :: r) fs vals = fillV r fs vals := by
 conv => lhs; unfold fillV
 rw [if_neg (by simp [hf])]
theorem fillV_none {h : Hd} {r : List Hd} {vals : List Vl} : fillV (h :: r) [] vals = fillV r [] vals := by
 cases hf : h.field
 ·exact fillV_skip hf
 ·conv => lhs; unfold fillV
  rw [if_pos hf]
theorem fillV_some {h : Hd} {r : List Hd} {f : Int} {fs : List Int} {vals : List Vl} (hf : h.field = true) : fillV (h :: r) (f :: fs) vals = fillV r fs (vals.set h.name.toNat ⟨f, 0⟩) := by
 conv => lhs; unfold fillV
 rw [if_pos hf]
theorem num_ok {f : Int} (h : -9223372036854775808 ≤ f ∧ f ≤ 9223372036854775807) : VlOk ⟨f, 0⟩ := ⟨h, by simp, by simp⟩
theorem fillV_ok : ∀ (hs : List Hd) (fs : List Int) (vals : List Vl), (∀ x ∈ fs, -9223372036854775808 ≤ x ∧ x ≤ 9223372036854775807) → vals.length = 26 → (∀ v ∈ vals, VlOk v) → (fillV hs fs vals).length = 26 ∧ ∀ v ∈ fillV hs fs vals, VlOk v
 | [], fs, vals, _, hl, ho => ⟨hl, ho⟩
 | h :: r, fs, vals, hf, hl, ho => by
  cases e : h.field
  ·rw [fillV_skip e]; exact fillV_ok r fs vals hf hl ho
  ·cases fs with
   | nil => rw [fillV_none]; exact fillV_ok r [] vals hf hl ho
   | cons f g =>
    rw [fillV_some e]
    have k := StOk.set (s := (vals, [])) ⟨hl, ho⟩ (num_ok (hf f (by simp))) h.name.toNat []
    exact fillV_ok r g _ (fun x hx => hf x (by simp [hx])) k.len k.ok
set_option maxRecDepth 100000 in
set_option maxHeartbeats 1000000 in
theorem takeFields_any (b : Nat) (S P : Nat → Prop) (hs : List Hd) (fs : List Int) (s : SR) (vh vf : Value) (w : World) (hl : hs.length ≤ 1000) (hfl : fs.length ≤ 1000) (hfr : ∀ x ∈ fs, -9223372036854775808 ≤ x ∧ x ≤ 9223372036854775807) (hok : ∀ h ∈ hs, 0 ≤ h.name ∧ h.name < 26) (hso : StOk s) (hS : StateAt w b S s) (hv : HeadsV w P vh hs) (hf : IntsAt w P vf fs) (hP : ∀ k, P k → k < b) (hSb : ∀ k, S k → b < k) :
  Calls Try.prog 21 #[.pointer (some ⟨b, 0, none⟩), vh, vf] w fun e w' => e = .returned (.tuple #[]) ∧ StepAt b S w w' (fillV hs fs s.1, s.2) := by
 have hlt0 := hS.lt
 obtain ⟨ao, g, cap, rfl, hcap, hcells⟩ := heads_form hv
 have HC : Hid (∀ i, ∀ hi : i < hs.length, ao = some ⟨g, 0, none⟩ ∧ g < b ∧ w.cell? ⟨g, i * 4, none⟩ = some (.bool hs[i].field) ∧ w.cell? ⟨g, i * 4 + 1, none⟩ = some (.int .i64 hs[i].place) ∧ w.cell? ⟨g, i * 4 + 2, none⟩ = some (.int .i64 hs[i].name) ∧ w.cell? ⟨g, i * 4 + 3, none⟩ = some (.int .i64 hs[i].label)) := by
  intro i hi
  obtain ⟨e0, _, c⟩ := hcells i hi
  exact ⟨e0, hP g (hv.2 g (by rw [e0]; rfl)), c⟩
 obtain ⟨af, gf, capf, rfl, hff⟩ := hf.here
 have HF : Hid (∀ i, ∀ hi : i < fs.length, af = some ⟨gf, 0, none⟩ ∧ gf < b ∧ w.cell? ⟨gf, i, none⟩ = some (.int .i64 fs[i])) := by
  intro i hi
  obtain ⟨e0, e1, c⟩ := hff i hi
  exact ⟨e0, hP gf e1, c⟩
 have HOK : Hid _ := hok
 have HFR : Hid _ := hfr
 have HST0 : Hid (StepAt b S w w s) := StepAt.still hS (Below.refl _ _)
 have HSO : Hid (StOk s) := hso
 have HSB : Hid (∀ k, S k → b < k) := hSb
 generalize hR : fillV hs fs s.1 = R at *
 have HR : Hid (fillV hs fs s.1 = R) := hR
 obtain ⟨vals0, nts⟩ := s
 simp only at *
 clear hcells hv hf hff hok hfr hso hS hR hSb hP
 go_enter Try.func21, Try.ntmps21
 go_wp2_with fail
 go_loopw [6, 11] (fun x y w' => ∃ (k j : Nat) (vals : List Vl), y = .int .i64 k ∧ x = .int .i64 j ∧ k ≤ hs.length ∧ j ≤ fs.length ∧ Hid (StOk (vals, nts)) ∧ Hid (StepAt b S w w' (vals, nts)) ∧ Hid (fillV (hs.drop k) (fs.drop j) vals = R)) (fun _ y _ => hs.length - (intOf y).toNat)
 case atStart => exact ⟨0, 0, vals0, rfl, rfl, by omega, by omega, HSO, HST0, HR⟩
 case round =>
  obtain ⟨k, j, vals, rfl, rfl, hk, hj, HSK, HST, HL⟩ := hrel
  by_cases hlt : k < hs.length
  ·have tk : decide ((k : Int) < (hs.length : Int)) = true := by simp; omega
   obtain ⟨e0, hgb, c0, c1, c2, c3⟩ := HC.out k hlt
   obtain ⟨nm0, nm1⟩ := HOK.out hs[k] (List.getElem_mem hlt)
   have hBl : Below b w wr := HST.out.onto.below hlt0 HSB.out
   rw [← hBl.cell (p := ⟨g, k * 4, none⟩) hgb] at c0
   rw [← hBl.cell (p := ⟨g, k * 4 + 1, none⟩) hgb] at c1
   rw [← hBl.cell (p := ⟨g, k * 4 + 2, none⟩) hgb] at c2
   rw [← hBl.cell (p := ⟨g, k * 4 + 3, none⟩) hgb] at c3
   have hz : w.heap.size ≤ wr.heap.size := HST.out.onto.size
   have hlr : b < wr.heap.size := HST.out.state.lt
   have hstep := HL.out
   rw [List.drop_eq_getElem_cons hlt] at hstep
   generalize hp : hs[k] = p at *
   subst e0
   cases hfd : p.field
   ·rw [fillV_skip hfd] at hstep
    obtain ⟨fd, pl, nm, lb⟩ := p
    simp only at c0 c1 c2 c3 hfd nm0 nm1
    subst hfd
    have HS1 : Hid _ := hstep
    have HST1 : Hid (StepAt b S w (wr.alloc (.cells #[.bool false, .int .i64 pl, .int .i64 nm, .int .i64 lb] 72)) (vals, nts)) := HST.out.later ((Below.refl _ _).alloc (Nat.le_refl _) _)
    clear hstep hp hBl
    go_wp2_with fail
    go_roundw
    case rel => exact ⟨k + 1, j, vals, by go_num, rfl, by omega, by omega, HSK, HST1, HS1⟩
    case measure => simp [intOf]; omega
   ·by_cases hjl : j < fs.length
    ·rw [List.drop_eq_getElem_cons hjl, fillV_some hfd] at hstep
     have tj : decide ((j : Int) < (fs.length : Int)) = true := by simp; omega
     obtain ⟨f0, hgf, d0⟩ := HF.out j hjl
     rw [← hBl.cell (p := ⟨gf, j, none⟩) hgf] at d0
     have hfj := HFR.out fs[j] (List.getElem_mem hjl)
     generalize hf1 : fs[j] = f at *
     subst f0
     obtain ⟨fd, pl, nm, lb⟩ := p
     simp only at c0 c1 c2 c3 hfd nm0 nm1 hstep
     subst hfd
     obtain ⟨nn, rfl⟩ : ∃ nn : Nat, nm = nn := ⟨nm.toNat, by omega⟩
     rw [Int.toNat_natCast] at hstep
     have hnn : nn < 26 := by omega
     have HS1 : Hid _ := hstep
     have HST1 : Hid (StepAt b S w (wr.alloc (.cells #[.bool true, .int .i64 pl, .int .i64 nn, .int .i64 lb] 72)) (vals, nts)) := HST.out.later ((Below.refl _ _).alloc (Nat.le_refl _) _)
     have HSK1 : Hid (StOk (vals.set nn ⟨f, 0⟩, nts)) := StOk.set HSK.out (num_ok hfj) nn nts
     clear hstep hp hBl hf1
     go_upto_region 5 with fail
     generalize hW : wr.alloc (.cells #[.bool true, .int .i64 pl, .int .i64 nn, .int .i64 lb] 72) = W at *
     have k2 : W.cell? ⟨wr.heap.size, 2, none⟩ = some (.int .i64 nn) := by rw [← hW]; simp [go_sem]
     have hWB : Below wr.heap.size wr W := by rw [← hW]; exact (Below.refl _ _).alloc (Nat.le_refl _) _
     have k0 : W.cell? ⟨gf, j, none⟩ = some (.int .i64 f) := (hWB.cell (p := ⟨gf, j, none⟩) (by simp only; omega)).trans d0
     have hlW : b < W.heap.size := by have := hWB.size; omega
     obtain ⟨e0, e1⟩ := HST1.out.state.cell nn hnn
     have efz := HST1.out.state.fz
     simp only at e0 e1
     clear hW hWB c0 c1 c2 c3 d0 HST
     go_cut [11] from 11 to 36 (fun y wx => y = .int .i64 k ∧ StepAt b S w wx (vals.set nn ⟨f, 0⟩, nts))
     case first =>
      go_region_with (go_at_call 30; refine (number_any _ _).mono ?_; rintro e w1 ⟨rfl, hb1⟩; have hb1' := below_undrew hb1; have s0 := (hb1'.cell (p := ⟨b, nn * 2, none⟩) hlW).trans e0; have s1 := (hb1'.cell (p := ⟨b, nn * 2 + 1, none⟩) hlW).trans e1; have sf : ∀ o, w1.frozen? ⟨b, o, none⟩ = false := (fun o => (hb1'.frozen (p := ⟨b, o, none⟩) hlW).trans (efz o)); have k2 := (hb1'.cell (p := ⟨wr.heap.size, 2, none⟩) (World.block_lt_of_cell? W _ k2)).trans k2)
      all_goals (go_wp2_with fail; go_meet)
      all_goals exact ⟨rfl, ((HST1.out.later hb1').state.set HSK.out.len nn hnn ⟨f, 0⟩), ((HST1.out.later hb1').onto.setCell _ _).setCell _ _⟩
     case rest =>
      obtain ⟨rfl, hsx⟩ := hcut
      have HSX : Hid (StepAt b S w wc (vals.set nn ⟨f, 0⟩, nts)) := hsx
      clear hsx
      go_wp2_with fail
      go_roundw
      case rel => exact ⟨k + 1, j + 1, _, by go_num, by go_num, by omega, by omega, HSK1, HSX, HS1⟩
      case measure => simp [intOf]; omega
    ·rw [List.drop_of_length_le (l := fs) (by omega), fillV_none] at hstep
     have tj : decide ((j : Int) < (fs.length : Int)) = false := by simp; omega
     obtain ⟨fd, pl, nm, lb⟩ := p
     simp only at c0 c1 c2 c3 hfd nm0 nm1
     subst hfd
     have HS1 : Hid (fillV (hs.drop (k + 1)) (fs.drop j) vals = R) := by show _ = _; rw [List.drop_of_length_le (l := fs) (by omega)]; exact hstep
     have HST1 : Hid (StepAt b S w (wr.alloc (.cells #[.bool true, .int .i64 pl, .int .i64 nm, .int .i64 lb] 72)) (vals, nts)) := HST.out.later ((Below.refl _ _).alloc (Nat.le_refl _) _)
     clear hstep hp hBl
     go_wp2_with fail
     go_roundw
     case rel => exact ⟨k + 1, j, vals, by go_num, rfl, by omega, by omega, HSK, HST1, HS1⟩
     case measure => simp [intOf]; omega
  ·have tk : decide ((k : Int) < (hs.length : Int)) = false := by simp; omega
   have hfin : vals = R := by
    have := HL.out
    rw [List.drop_of_length_le (by omega)] at this
    exact this
   have HFN : Hid _ := hfin
   clear hfin
   go_wp2_with fail
   go_end0
   rw [← HFN.out]
   exact ⟨rfl, HST.out⟩
end Go.Proofs.Ytdgmoiflahoihab
