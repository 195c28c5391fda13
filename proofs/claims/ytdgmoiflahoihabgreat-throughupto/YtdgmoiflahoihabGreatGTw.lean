import Derived.Test.YtdgmoiflahoihabGreatGW3w
import Derived.Test.YtdgmoiflahoihabGreatPGen3w

namespace Go.Proofs.YtdgmoiflahoihabGreat
open Go.RowKit
set_option linter.unusedSimpArgs false
set_option linter.unusedVariables false
theorem fieldsI_cons (h : Hd) (r : List Hd) (k : Nat) : fieldsI (h :: r) k = if h.field then ⟨11, h.name, k, 0⟩ :: fieldsI r (k + 1) else fieldsI r k := rfl
set_option maxRecDepth 100000 in
set_option maxHeartbeats 2000000 in
theorem gfields_any (b : Nat) (S P : Nat → Prop) (l : List Ic) (hs : List Hd) (vh : Value) (w : World) (hl : hs.length ≤ 1000) (hll : l.length ≤ 1000) (hS : WrAt w b S l) (hv : HeadsV w P vh hs) (hP : ∀ k, P k → k < b) (hSb : ∀ k, S k → b < k) :
  Calls Tryz.prog 27 #[.pointer (some ⟨b, 0, none⟩), vh] w fun e w' => e = .returned (.tuple #[]) ∧ WStep b S w w' (l ++ fieldsI hs 0) := by
 have hlt0 := hS.lt
 obtain ⟨ao, g, cap, rfl, hcap, hcells⟩ := heads_form hv
 have HC : Hid (∀ i, ∀ hi : i < hs.length, ao = some ⟨g, 0, none⟩ ∧ g < b ∧ w.cell? ⟨g, i * 4, none⟩ = some (.bool hs[i].field) ∧ w.cell? ⟨g, i * 4 + 1, none⟩ = some (.int .i64 hs[i].place) ∧ w.cell? ⟨g, i * 4 + 2, none⟩ = some (.int .i64 hs[i].name) ∧ w.cell? ⟨g, i * 4 + 3, none⟩ = some (.int .i64 hs[i].label)) := by
  intro i hi
  obtain ⟨e0, _, c⟩ := hcells i hi
  exact ⟨e0, hP g (hv.2 g (by rw [e0]; rfl)), c⟩
 have HST0 : Hid (WStep b S w w l) := WStep.still hS (Below.refl _ _)
 have HSB : Hid (∀ k, S k → b < k) := hSb
 generalize hR : l ++ fieldsI hs 0 = R at *
 have HR : Hid (l ++ fieldsI (hs.drop 0) 0 = R) := hR
 clear hcells hv hS hR hSb hP
 go_enter Tryz.func27, Tryz.ntmps27
 go_wp2_with fail
 go_loopw [4, 9] (fun x y w' => ∃ (k j : Nat) (m : List Ic), y = .int .i64 k ∧ x = .int .i64 j ∧ k ≤ hs.length ∧ j ≤ k ∧ m.length ≤ l.length + k ∧ Hid (WStep b S w w' m) ∧ Hid (m ++ fieldsI (hs.drop k) j = R)) (fun _ y _ => hs.length - (intOf y).toNat)
 case atStart => exact ⟨0, 0, l, rfl, rfl, by omega, by omega, by omega, HST0, HR⟩
 case round =>
  obtain ⟨k, j, m, rfl, rfl, hk, hj, hm, HST, HL⟩ := hrel
  by_cases hlt : k < hs.length
  ·have tk : decide ((k : Int) < (hs.length : Int)) = true := by simp; omega
   obtain ⟨e0, hgb, c0, c1, c2, c3⟩ := HC.out k hlt
   have hBl : Below b w wr := HST.out.onto.below hlt0 HSB.out
   rw [← hBl.cell (p := ⟨g, k * 4, none⟩) hgb] at c0
   rw [← hBl.cell (p := ⟨g, k * 4 + 1, none⟩) hgb] at c1
   rw [← hBl.cell (p := ⟨g, k * 4 + 2, none⟩) hgb] at c2
   rw [← hBl.cell (p := ⟨g, k * 4 + 3, none⟩) hgb] at c3
   have hlr : b < wr.heap.size := HST.out.here.lt
   have hstep := HL.out
   rw [List.drop_eq_getElem_cons hlt, fieldsI_cons] at hstep
   generalize hp : hs[k] = p at *
   subst e0
   obtain ⟨fd, pl, nm, lb⟩ := p
   simp only at c0 c1 c2 c3 hstep
   have HBA : Hid (Below wr.heap.size wr (wr.alloc (.cells #[.bool fd, .int .i64 pl, .int .i64 nm, .int .i64 lb] 93))) := (Below.refl _ _).alloc (Nat.le_refl _) _
   cases fd
   ·have HS1 : Hid (m ++ fieldsI (hs.drop (k + 1)) j = R) := by show _ = _; simpa using hstep
    have HST1 : Hid (WStep b S w (wr.alloc (.cells #[.bool false, .int .i64 pl, .int .i64 nm, .int .i64 lb] 93)) m) := HST.out.trans (WStep.still (HST.out.here.keep HBA.out (Nat.le_refl _)) HBA.out)
    clear hstep hp hBl
    go_wp2_with fail
    go_roundw
    case rel => exact ⟨k + 1, j, m, by go_num, rfl, by omega, by omega, by omega, HST1, HS1⟩
    case measure => simp [intOf]; omega
   ·have HS1 : Hid ((m ++ [⟨11, nm, j, 0⟩]) ++ fieldsI (hs.drop (k + 1)) (j + 1) = R) := by show _ = _; simp only [if_true] at hstep; rw [← hstep]; simp
    clear hstep hp hBl
    go_wp2_with (first | (go_at_call 29; refine (put_any b _ m _ _ _ _ _ (HST.out.here.keep HBA.out (Nat.le_refl _)) (by omega)).mono ?_; rintro r1 w1 ⟨rfl, hs1⟩; have HS2 : Hid (WStep b S w w1 (m ++ [⟨11, nm, j, 0⟩])) := HST.out.trans (hs1.pre HBA.out); clear hs1))
    go_roundw
    case rel => exact ⟨k + 1, j + 1, _, by go_num, by go_num, by omega, by omega, by simp; omega, HS2, HS1⟩
    case measure => simp [intOf]; omega
  ·have tk : decide ((k : Int) < (hs.length : Int)) = false := by simp; omega
   have hfin : m = R := by
    have := HL.out
    rw [List.drop_of_length_le (by omega)] at this
    simpa [fieldsI] using this
   have HF : Hid _ := hfin
   clear hfin
   go_wp2_with fail
   go_end0
   rw [← HF.out]
   exact ⟨rfl, HST.out⟩
def CompPost (w : World) (r : Int × List Ic) (x : Ending) (w' : World) : Prop :=
 (∃ vn, x = .returned (.tuple #[vn, .int .i64 r.1]) ∧ (r.1 ≠ 0 → vn = .slice none 0 0) ∧ w'.ownsRow w.heap.size 73 4 vn r.2.length (icRow r.2)) ∧ Below w.heap.size w w'
set_option maxRecDepth 100000 in
set_option maxHeartbeats 2000000 in
theorem compText_err (s : ByteArray) (w : World) (e : Int) (hs : s.size ≤ maxLen) (hpo : s.size ≤ 400 → (parseR s.data.toList).1.bad = false → ParseOk s.data.toList) (he : (checkP s.data.toList).1 = e) (hne : e ≠ 0) :
  Calls Tryz.prog 18 #[.string s] w fun x w' => x = .returned (.tuple #[.slice none 0 0, .int .i64 e]) ∧ Below w.heap.size w w' := by
 have HPO : Hid _ := hpo
 have HE : Hid ((checkP s.data.toList).1 = e) := he
 clear hpo he
 have te : (e != 0) = true := by simpa using hne
 go_enter Tryz.func18, Tryz.ntmps18
 go_upto_region 2 with (first | (go_at_call 16; refine (text_any s _ hs HPO.out).mono ?_; rintro x1 w1 ⟨cs, rfl, htc, hb1⟩; have HTC : Hid (TextC s.data.toList cs) := htc; clear htc) | (refine wpList_store_row rfl 55 (.tmp 4) (.tmp 7) rfl w1.heap.size cs.toArray rfl rfl 55 (e30 0 0).toArray (by exact rules_new w1) (by rw [infoRules, HTC.out.size]) (by rw [HTC.out.size]; rfl) HTC.out.one ?_; rw [World.setRow_alloc_new]; simp only [Act.put]))
 have hs1 := hb1.size
 have hbW1 : Below w.heap.size w (w1.alloc (.cells cs.toArray 55)) := hb1.alloc (by omega) _
 have q0 : (w1.alloc (.cells cs.toArray 55)).cell? ⟨w1.heap.size, 0, none⟩ = some (.int .i64 (checkP s.data.toList).1) := by rw [cell_of_row _ _ _ _ _ _ (heap_alloc_new w1 _)]; simpa using HTC.out.cell0
 rw [HE.out] at q0
 generalize hgg : w1.heap.size = g1 at *
 generalize w1.alloc (.cells cs.toArray 55) = W1 at *
 have HBW : Hid (Below w.heap.size w W1) := hbW1
 clear hbW1 hb1 hgg
 go_wp2_with fail
 go_region
 all_goals go_wp2_with fail
 all_goals go_ret2
 all_goals exact ⟨rfl, HBW.out.drew⟩
set_option maxRecDepth 100000 in
set_option maxHeartbeats 4000000 in
theorem compText_ok (s : ByteArray) (w : World) (hs : s.size ≤ maxLen) (h0 : (checkP s.data.toList).1 = 0) :
  Calls Tryz.prog 18 #[.string s] w (CompPost w (0, genP s.data.toList)) := by
 obtain ⟨h1, h2, h3, h4, h5⟩ := checkP_ok h0
 have hsl : s.data.toList.length = s.size := by simp
 have hpok := parse_ok h1 h2
 have hgf := gen_facts h0
 have HT : Hid _ := fun w => text_full s w hs (fun h hb => parse_ok (by omega) hb) h0
 have hgen : genP s.data.toList = [] ++ fieldsI (parseH s.data.toList).2 0 ++ genF 9 ([] ++ fieldsI (parseH s.data.toList).2 0).length 0 (parseR s.data.toList).2 ++ [⟨0, 0, 0, 0⟩] := by unfold genP; simp
 have hshort := hgf.short
 rw [hgen] at hshort ⊢
 generalize hHe : parseH s.data.toList = H at *
 generalize hRe : parseR s.data.toList = R at *
 obtain ⟨hhd, hfew, htree, hwork⟩ := hpok
 rw [hHe] at hhd hfew
 rw [hRe] at htree hwork
 generalize hLb : labelsP H.2 R.2 = Lb at *
 have hLl : Lb.length = 26 := by rw [← hLb]; exact (labelsP_ok hhd htree).len
 have HTR : Hid (TreeOk 9 R.2) := htree
 generalize hG : genF 9 ([] ++ fieldsI H.2 0).length 0 R.2 = G at *
 have HG : Hid (genF 9 ([] ++ fieldsI H.2 0).length 0 R.2 = G) := hG
 generalize hF : ([] : List Ic) ++ fieldsI H.2 0 = F at *
 have HF : Hid (([] : List Ic) ++ fieldsI H.2 0 = F) := hF
 simp only [List.length_append, List.length_cons, List.length_nil] at hshort
 clear h0 h1 h2 h3 h5 hhd htree hgen hHe hRe hLb hs hG hF hgf
 go_enter Tryz.func18, Tryz.ntmps18
 go_upto_region 2 with (first | (go_at_call 16; refine (HT.out _).mono ?_; rintro x1 w1 ⟨vh, vr, rfl, hb1, hvh, hvr⟩; obtain ⟨ah, nh, ch, hvhe⟩ : ∃ aa nn cc, vh = .slice aa nn cc := (by rcases Joins.ownsRow_forms hvh.1 with ⟨rfl, _⟩ | ⟨g, cap, rfl⟩ <;> exact ⟨_, _, _, rfl⟩); obtain ⟨ar, nr, cr, hvre⟩ := rulesV_form hvr; subst hvhe; subst hvre) | (refine wpList_store_row rfl 55 (.tmp 4) (.tmp 7) rfl w1.heap.size (ok30 (.slice ah nh ch) (.slice ar nr cr) Lb).toArray rfl rfl 55 (e30 0 0).toArray (by exact rules_new w1) (by rw [infoRules, ok30_size _ _ _ hLl]) (by rw [ok30_size _ _ _ hLl]; rfl) (ok30_one _ _ _ _ _ _ _) ?_; rw [World.setRow_alloc_new]; simp only [Act.put]))
 have hs1 := hb1.size
 generalize hW : w1.alloc (.cells (ok30 (.slice ah nh ch) (.slice ar nr cr) Lb).toArray 55) = W1
 have hB1 : Below w1.heap.size w1 W1 := by rw [← hW]; exact (Below.refl _ _).alloc (Nat.le_refl _) _
 have hWs : W1.heap.size = w1.heap.size + 1 := by rw [← hW]; simp
 have q0 : W1.cell? ⟨w1.heap.size, 0, none⟩ = some (.int .i64 0) := by rw [← hW, cell_of_row _ _ _ _ _ _ (heap_alloc_new w1 _)]; rfl
 have q2 : W1.cell? ⟨w1.heap.size, 2, none⟩ = some (.slice ah nh ch) := by rw [← hW, cell_of_row _ _ _ _ _ _ (heap_alloc_new w1 _)]; rfl
 have q3 : W1.cell? ⟨w1.heap.size, 3, none⟩ = some (.slice ar nr cr) := by rw [← hW, cell_of_row _ _ _ _ _ _ (heap_alloc_new w1 _)]; rfl
 have HVH : Hid (HeadsV W1 (fun k => w.heap.size ≤ k) (.slice ah nh ch) H.2) := headsV_frame hvh (fun k hk hl => ⟨hk, hB1.block k hl⟩)
 have HVR : Hid (RulesV 9 W1 (fun k => w.heap.size ≤ k) (.slice ar nr cr) R.2) := rulesV_frame (fun k hk hl => ⟨hk, hB1.block k hl⟩) 9 _ _ hvr
 have HBW : Hid (Below w.heap.size w W1) := hb1.trans (hB1.mono (by omega))
 generalize hgg : w1.heap.size = g1 at *
 have hg1 : g1 < W1.heap.size := by omega
 clear hvh hvr hB1 hW hb1 hgg hWs
 go_upto_region 5 with fail
 generalize hW3 : W1.alloc (.cells #[.slice none 0 0] 68) = W3
 have hB3 : Below W1.heap.size W1 W3 := by rw [← hW3]; exact (Below.refl _ _).alloc (Nat.le_refl _) _
 have hWs3 : W3.heap.size = W1.heap.size + 1 := by rw [← hW3]; simp
 have hS0 : WrAt W3 W1.heap.size (fun _ => False) [] := by
  rw [← hW3]
  exact ⟨⟨.slice none 0 0, by simp [go_sem], World.ownsRow_nil .., fun k hk => by cases hk⟩, fun o => by simp [go_sem]⟩
 have r2 : W3.cell? ⟨g1, 2, none⟩ = some (.slice ah nh ch) := (hB3.cell (p := ⟨g1, 2, none⟩) hg1).trans q2
 have r3 : W3.cell? ⟨g1, 3, none⟩ = some (.slice ar nr cr) := (hB3.cell (p := ⟨g1, 3, none⟩) hg1).trans q3
 have hww : w.heap.size ≤ W1.heap.size := HBW.out.size
 have HB3 : Hid (Below w.heap.size w W3) := HBW.out.trans (hB3.mono (by omega))
 have HVH3 : Hid (HeadsV W3 (fun k => k < W1.heap.size) (.slice ah nh ch) H.2) := headsV_frame HVH.out (fun k hk hl => ⟨hl, hB3.block k hl⟩)
 have HVR3 : Hid (RulesV 9 W3 (fun k => k < W1.heap.size) (.slice ar nr cr) R.2) := rulesV_frame (fun k hk hl => ⟨hl, hB3.block k hl⟩) 9 _ _ HVR.out
 generalize hbb : W1.heap.size = b at *
 have hbW : b < W3.heap.size := by omega
 have HS0 : Hid (WrAt W3 b (fun _ => False) []) := hS0
 have HSB : Hid (∀ k, (False ∨ W3.heap.size ≤ k) → b < k) := fun k hk => by rcases hk with hk | hk; exact hk.elim; omega
 have HLOW : Hid (∀ (w' : World) (m : List Ic), WStep b (fun _ => False) W3 w' m → Below b W3 w') := fun w' m h => h.onto.below hbW (fun k hk => hk.elim)
 clear hS0 hW3 hB3 hWs3 hbb q0 q2 q3 HVH HVR HBW hs1
 go_wp2_with fail
 refine (gfields_any b _ (fun k => k < b) [] H.2 _ _ hfew (by simp) HS0.out HVH3.out (fun k hk => hk) (fun k hk => hk.elim)).mono ?_
 rw [HF.out]
 rintro x1 w4 ⟨rfl, hs4⟩
 have HS4 : Hid (WStep b (fun _ => False) W3 w4 F) := hs4
 have r4 : w4.cell? ⟨g1, 3, none⟩ = some (.slice ar nr cr) := ((HLOW.out _ _ hs4).cell (p := ⟨g1, 3, none⟩) hg1).trans r3
 clear hs4
 go_wp2_with fail
 refine (grules_any 9 b _ F R.2 0 (fun k => k < b) _ _ HTR.out (by rw [HG.out]; omega) (by omega) HS4.out.here (rulesV_lower HVR3.out (fun k hk => hk) (HLOW.out _ _ HS4.out)) (fun k hk => hk) HSB.out).mono ?_
 rw [HG.out]
 rintro x2 w5 ⟨rfl, hs5⟩
 have HS5 : Hid (WStep b (fun _ => False) W3 w5 (F ++ G)) := HS4.out.trans hs5
 clear hs5
 go_wp2_with fail
 refine (put_any b _ _ _ _ _ _ _ HS5.out.here (by simp; omega)).mono ?_
 rintro x3 w6 ⟨rfl, hs6⟩
 have HS6 : Hid (WStep b (fun _ => False) W3 w6 (F ++ G ++ [⟨0, 0, 0, 0⟩])) := HS5.out.trans hs6
 obtain ⟨⟨vn, hvn, hon, _⟩, _⟩ := hs6.here
 clear hs6
 go_wp2_with fail
 go_ret2
 refine ⟨⟨vn, rfl, fun hx => absurd rfl hx, ?_⟩, HB3.out.trans ((HLOW.out _ _ HS6.out).mono (by omega))⟩
 have hon2 : w6.ownsRow (b + 1) 73 4 vn (F ++ G ++ [(⟨0, 0, 0, 0⟩ : Ic)]).length (icRow (F ++ G ++ [⟨0, 0, 0, 0⟩])) := hon
 first
 | exact ownsRow_base hon2 (by omega)
 | (rw [List.append_assoc] at hon2; exact ownsRow_base hon2 (by omega))
set_option maxRecDepth 100000 in
set_option maxHeartbeats 1000000 in
theorem tariffCompile_any (s : ByteArray) (w : World) (hs : s.size ≤ maxLen) :
  Calls Tryz.prog 11 #[.string s] w (CompPost w (compP s.data.toList)) := by
 have hsl : s.data.toList.length = s.size := by simp
 have H : Calls Tryz.prog 18 #[.string s] w (CompPost w (compP s.data.toList)) := by
  by_cases h0 : (checkP s.data.toList).1 = 0
  ·have e : compP s.data.toList = (0, genP s.data.toList) := by unfold compP; rw [if_neg (by simpa using h0)]
   rw [e]
   exact compText_ok s w hs h0
  ·have e : compP s.data.toList = ((checkP s.data.toList).1, []) := by unfold compP; rw [if_pos h0]
   rw [e]
   refine (compText_err s w _ hs (fun h hb => parse_ok (by omega) hb) rfl h0).mono ?_
   rintro x w' ⟨rfl, hb⟩
   exact ⟨⟨_, rfl, fun _ => rfl, World.ownsRow_nil ..⟩, hb⟩
 generalize compP s.data.toList = RP at *
 have HH : Hid (Calls Tryz.prog 18 #[.string s] w (CompPost w RP)) := H
 clear H
 go_enter Tryz.func11, Tryz.ntmps11
 go_wp2_with fail
 refine HH.out.mono ?_
 rintro e w1 ⟨⟨vn, rfl, h1, h2⟩, hb⟩
 go_wp2_with fail
 go_ret2
 exact ⟨⟨vn, rfl, h1, h2⟩, hb⟩
end Go.Proofs.YtdgmoiflahoihabGreat
