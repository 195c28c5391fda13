import Derived.Test.YtdgmoiflahoihaaGreatCFlow
import Derived.Test.YtdgmoiflahoihaaGreatPlain

namespace Go.Proofs.YtdgmoiflahoihaaGreat
open Go.RowKit
set_option linter.unusedSimpArgs false
set_option linter.unusedVariables false

theorem flCells_at (l : List Fl) : ∀ (i : Nat) (h : i < l.length), (flCells l)[i * 3]? = some (.int .i64 l[i].dst) ∧ (flCells l)[i * 3 + 1]? = some (.int .i64 l[i].frm) ∧ (flCells l)[i * 3 + 2]? = some (.int .i64 l[i].sec) := by
  induction l with
  | nil => intro i h; simp at h
  | cons f r ih =>
    intro i h
    cases i with
    | zero => simp [flCells, flV]
    | succ i =>
      have := ih i (by simpa using h)
      rw [show (i + 1) * 3 = i * 3 + 1 + 1 + 1 by omega]
      simpa [flCells, flV] using this

theorem fl_form {w : World} {base : Nat} {v : Value} {l : List Fl} (h : w.ownsRow base 124 3 v l.length (flCells l)) :
    ∃ ao g cap, v = .slice ao l.length cap ∧ ∀ i, ∀ hi : i < l.length, ao = some ⟨g, 0, none⟩ ∧ w.cell? ⟨g, i * 3, none⟩ = some (.int .i64 l[i].dst) ∧ w.cell? ⟨g, i * 3 + 1, none⟩ = some (.int .i64 l[i].frm) ∧ w.cell? ⟨g, i * 3 + 2, none⟩ = some (.int .i64 l[i].sec) := by
  rcases Joins.ownsRow_forms h with ⟨rfl, h0⟩ | ⟨g, cap, rfl⟩
  · exact ⟨none, 0, 0, by rw [h0], fun i hi => absurd hi (by omega)⟩
  · refine ⟨some ⟨g, 0, none⟩, g, cap, rfl, fun i hi => ⟨rfl, ?_, ?_, ?_⟩⟩
    · rw [h.cellAt (i * 3) (by omega)]; exact (flCells_at l i hi).1
    · rw [h.cellAt (i * 3 + 1) (by omega)]; exact (flCells_at l i hi).2.1
    · rw [h.cellAt (i * 3 + 2) (by omega)]; exact (flCells_at l i hi).2.2

theorem scan_cons {rec : Nat → Nat → Option (Bool × Nat)} {x s k seen : Nat} {l : List Fl} (hk : k < l.length) : scanF rec x s (l.drop k) seen =
    if ¬ l[k].dst = (x : Int) then scanF rec x s (l.drop (k + 1)) seen
    else if l[k].frm < 0 ∧ l[k].sec.toNat &&& s ≠ 0 then some (true, seen)
    else if 0 ≤ l[k].frm ∧ seen &&& 2 ^ l[k].frm.toNat = 0 then
      match rec l[k].frm.toNat seen with
      | none => none
      | some (true, more) => some (true, more)
      | some (false, more) => scanF rec x s (l.drop (k + 1)) more
    else scanF rec x s (l.drop (k + 1)) seen := by
  rw [List.drop_eq_getElem_cons hk]
  rfl

theorem ret_two {a a' : Bool} {b b' : Int} (h1 : a = a') (h2 : b = b') : Ending.returned (.tuple #[.bool a, .int .i64 b]) = .returned (.tuple #[.bool a', .int .i64 b']) := by rw [h1, h2]

set_option maxRecDepth 100000 in
set_option maxHeartbeats 2000000 in
theorem tells_any (F : Nat) : ∀ (b x s seen base : Nat) (v : Value) (l : List Fl) (r : Bool × Nat) (C : List UInt8) (A : List Int) (w : World) (hb : BookAt w b C A) (hl : w.ownsRow base 124 3 v l.length (flCells l)) (hll : l.length < 100000) (hfl : FlOk l)
    (hx : x < 26) (hs : s < 16) (hseen : seen < 2 ^ 26) (ho : tellsF C l s F x seen = some r),
    Calls Tryz.prog 46 #[.pointer (some ⟨b, 0, none⟩), v, .int .i64 x, .int .i64 s, .int .i64 seen] w fun e w' => e = .returned (.tuple #[.bool r.1, .int .i64 r.2]) ∧ w' = w ∧ r.2 < 2 ^ 26 := by
  induction F with
  | zero => intro b x s seen base v l r C A w hb hl hll hfl hx hs hseen ho; cases ho
  | succ F ih =>
  intro b x s seen base v l r C A w hb hl hll hfl hx hs hseen ho
  unfold tellsF at ho
  cases hh : headC C (x : Int) with
  | none => rw [hh] at ho; cases ho
  | some h =>
  rw [hh] at ho
  have hhl := headC_lt hh
  have HB : Hid (BookAt w b C A) := hb
  have HH : Hid (headC C (x : Int) = some h) := hh
  clear hb hh
  by_cases h0 : 0 ≤ h
  · obtain ⟨hn, rfl⟩ := Int.eq_ofNat_of_zero_le h0
    simp only [h0, if_true, Option.some.injEq] at ho
    subst ho
    have ha := i64_and_nat hn s (by omega) (by omega)
    go_enter Tryz.func46, Tryz.ntmps46
    go_wp2_with (first | (go_at_call 72; refine (head_any b x _ C A _ HB.out HH.out).mono ?_; rintro x1 w' ⟨rfl, rfl⟩))
    go_ret2
    exact ⟨ret_two (by rw [Bool.eq_iff_iff]; simp) rfl, rfl, hseen⟩
  · simp only [h0, if_false] at ho
    have hpow := or_pow seen x 26 hseen hx (by omega)
    have IH : Hid (∀ b x s seen base v l r C A w, _) := ih
    have HO : Hid _ := ho
    have HL : Hid (w.ownsRow base 124 3 v l.length (flCells l)) := hl
    obtain ⟨ao, gg, cap, rfl, hcl⟩ := fl_form hl
    have HCL : Hid (∀ i, ∀ hi : i < l.length, _) := hcl
    clear hcl
    have th : decide (0 ≤ h) = false := by simp [h0]
    clear ih ho hl
    have hp1 := hpow.1
    have hp2 := hpow.2
    clear hpow
    generalize seen ||| 2 ^ x = seen1 at *
    go_enter Tryz.func46, Tryz.ntmps46
    go_wp2_with (first | (go_at_call 72; refine (head_any b x _ C A _ HB.out HH.out).mono ?_; rintro x1 w' ⟨rfl, rfl⟩))
    go_loop [4, 13] (fun y z => ∃ (k sn : Nat), z = .int .i64 k ∧ y = .int .i64 sn ∧ k ≤ l.length ∧ sn < 2 ^ 26 ∧ Hid (scanF (tellsF C l s F) x s (l.drop k) sn = some r)) (fun _ z => l.length - (intOf z).toNat)
    case atStart => exact ⟨0, seen1, rfl, rfl, by omega, hp2, HO⟩
    case round =>
      obtain ⟨k, sn, rfl, rfl, hk, hsn, HS⟩ := hrel
      by_cases hlt : k < l.length
      · obtain ⟨rfl, c0, c1, c2⟩ := HCL.out k hlt
        clear HCL
        have hsc := HS.out
        rw [scan_cons hlt] at hsc
        have hf1 := (hfl.frm _ (List.getElem_mem hlt)).1
        have hf2 := (hfl.frm _ (List.getElem_mem hlt)).2
        have hs1 := (hfl.sec _ (List.getElem_mem hlt)).1
        have hs2 := (hfl.sec _ (List.getElem_mem hlt)).2
        generalize l[k] = q at *
        obtain ⟨qd, qf, qs⟩ := q
        simp only at hsc hf1 hf2 hs1 hs2 c0 c1 c2
        by_cases hd : qd = (x : Int)
        · rw [if_neg (fun h => h hd)] at hsc
          have td : (qd != (x : Int)) = false := by simp [hd]
          clear hd
          by_cases hfn : qf < 0
          · obtain ⟨sc, rfl⟩ := Int.eq_ofNat_of_zero_le hs1
            have ha := i64_and_nat sc s (by omega) (by omega)
            have hf3 : ¬ 0 ≤ qf := by omega
            by_cases hz : sc &&& s = 0
            · rw [if_neg (fun h => h.2 (by simpa using hz)), if_neg (fun h => hf3 h.1)] at hsc
              have HS2 : Hid _ := hsc
              have ta : (bits .and .i64 (sc : Int) (s : Int) != 0) = false := by rw [ha, hz]; rfl
              clear hsc ha hz
              go_wp2
              exact ⟨⟨k + 1, sn, by go_num, rfl, by omega, hsn, HS2⟩, by simp [intOf]; omega⟩
            · rw [if_pos ⟨hfn, by simpa using hz⟩] at hsc
              have t2 : r = (true, sn) := by simpa using hsc.symm
              have HS2 : Hid (r = (true, sn)) := t2
              clear t2
              have ta : (bits .and .i64 (sc : Int) (s : Int) != 0) = true := by rw [ha]; simpa using hz
              clear hsc ha hz
              go_wp2
              go_ret2
              have := HS2.out
              subst this
              exact ⟨rfl, rfl, hsn⟩
          · rw [if_neg (fun h => hfn h.1)] at hsc
            obtain ⟨fn, rfl⟩ := Int.eq_ofNat_of_zero_le (show 0 ≤ qf by omega)
            have hap := and_pow sn fn 26 hsn (by omega) (by omega)
            by_cases hz : sn &&& 2 ^ fn = 0
            · rw [if_pos ⟨by omega, by simpa using hz⟩] at hsc
              simp only [Int.toNat_natCast] at hsc
              have ta : (bits .and .i64 (sn : Int) (wrap64 (2 ^ fn)) == 0) = true := by rw [hap, hz]; rfl
              cases hrec : tellsF C l s F fn sn with
              | none => rw [hrec] at hsc; cases hsc
              | some rr =>
              obtain ⟨ok, more⟩ := rr
              rw [hrec] at hsc
              have HREC : Hid _ := hrec
              clear hap hz hrec
              cases ok
              · have HS2 : Hid (scanF (tellsF C l s F) x s (l.drop (k + 1)) more = some r) := hsc
                clear hsc
                go_wp2_with (go_at_call 46; refine (IH.out b fn s sn base (.slice (some ⟨gg, 0, none⟩) l.length cap) l _ C A _ HB.out HL.out hll hfl (by omega) hs hsn HREC.out).mono ?_; rintro x1 w' ⟨rfl, rfl, hmore⟩)
                exact ⟨⟨k + 1, more, by go_num, rfl, by omega, hmore, HS2⟩, by simp [intOf]; omega⟩
              · have t2 : r = (true, more) := by simpa using hsc.symm
                have HS2 : Hid (r = (true, more)) := t2
                clear t2
                clear hsc
                go_wp2_with (go_at_call 46; refine (IH.out b fn s sn base (.slice (some ⟨gg, 0, none⟩) l.length cap) l _ C A _ HB.out HL.out hll hfl (by omega) hs hsn HREC.out).mono ?_; rintro x1 w' ⟨rfl, rfl, hmore⟩)
                go_ret2
                have := HS2.out
                subst this
                exact ⟨rfl, rfl, hmore⟩
            · rw [if_neg (fun h => hz (by simpa using h.2))] at hsc
              have HS2 : Hid _ := hsc
              have ta : (bits .and .i64 (sn : Int) (wrap64 (2 ^ fn)) == 0) = false := by rw [hap]; simpa using hz
              clear hsc hap hz
              go_wp2
              exact ⟨⟨k + 1, sn, by go_num, rfl, by omega, hsn, HS2⟩, by simp [intOf]; omega⟩
        · rw [if_pos hd] at hsc
          have HS2 : Hid _ := hsc
          have td : (qd != (x : Int)) = true := by simp [hd]
          clear hsc hd
          go_wp2
          exact ⟨⟨k + 1, sn, by go_num, rfl, by omega, hsn, HS2⟩, by simp [intOf]; omega⟩
      · have t2 : r = (false, sn) := by
          have := HS.out
          rw [List.drop_of_length_le (by omega)] at this
          simpa [scanF] using this.symm
        have HS2 : Hid (r = (false, sn)) := t2
        clear t2
        go_wp2
        go_ret2
        have := HS2.out
        subst this
        exact ⟨rfl, rfl, hsn⟩

end Go.Proofs.YtdgmoiflahoihaaGreat
