import Derived.Test.YtdgmoiflahoihabGreatDoorSIPw
import Derived.Test.YtdgmoiflahoihabGreatDoorBLPw
import Derived.Test.YtdgmoiflahoihabGreatDoorPLe6w

namespace Go.Proofs.YtdgmoiflahoihabGreatDoor
open Go.RowKit
set_option linter.unusedSimpArgs false
set_option linter.unusedVariables false
def maskL (r : Nat) (of : List Nat) : List Int → List Int → List Int → List Int
 | n :: ns, f :: fs, g :: gs => (if goesB (of.getD n.toNat 0) r then f else g) :: maskL r of ns fs gs
 | _, _, _ => []
def fieldN (hs : List Hd) : List Int := (hs.filter (·.field)).map (·.name)
theorem fieldN_len (hs : List Hd) : (fieldN hs).length = countF hs := by
 unfold fieldN countF
 simp
theorem maskL_len (r : Nat) (of : List Nat) : ∀ (ns fs gs : List Int), fs.length = ns.length → gs.length = ns.length → (maskL r of ns fs gs).length = ns.length
 | [], fs, gs, _, _ => by cases fs <;> cases gs <;> rfl
 | n :: ns, [], gs, h, _ => by simp at h
 | n :: ns, f :: fs, [], _, h => by simp at h
 | n :: ns, f :: fs, g :: gs, h, k => by
  have := maskL_len r of ns fs gs (by simpa using h) (by simpa using k)
  simp [maskL, this]
theorem maskL_ok (r : Nat) (of : List Nat) : ∀ (ns fs gs : List Int), FsOk fs → FsOk gs → FsOk (maskL r of ns fs gs)
 | [], fs, gs, _, _ => by cases fs <;> cases gs <;> (intro x hx; cases hx)
 | n :: ns, [], gs, _, _ => by intro x hx; cases hx
 | n :: ns, f :: fs, [], _, _ => by intro x hx; cases hx
 | n :: ns, f :: fs, g :: gs, hf, hg => by
  have ih := maskL_ok r of ns fs gs (fun x hx => hf x (by simp [hx])) (fun x hx => hg x (by simp [hx]))
  intro x hx
  simp only [maskL, List.mem_cons] at hx
  rcases hx with rfl | hx
  ·split
   ·exact hf f (by simp)
   ·exact hg g (by simp)
  ·exact ih x hx
theorem fillV_length : ∀ (hs : List Hd) (fs : List Int) (u : List Vl), (fillV hs fs u).length = u.length
 | [], fs, u => rfl
 | h :: hs, fs, u => by
  unfold fillV
  split
  ·cases fs with
   | nil => exact fillV_length hs [] u
   | cons f g => exact (fillV_length hs g _).trans (by simp)
  ·exact fillV_length hs fs u
theorem fill_mask (r : Nat) (of : List Nat) : ∀ (hs : List Hd) (fs gs : List Int) (u w : List Vl), u.length = 26 → w.length = 26 → fs.length = countF hs → gs.length = countF hs → LowEq r of u w → LowEq r of (fillV hs fs u) (fillV hs (maskL r of (fieldN hs) fs gs) w)
 | [], fs, gs, u, w, _, _, _, _, h => h
 | h0 :: hs, fs, gs, u, w, lu, lw, hf, hg, h => by
  rw [countF_cons] at hf hg
  cases hfd : h0.field
  ·rw [hfd] at hf hg
   simp only [Bool.false_eq_true, if_false, Nat.zero_add] at hf hg
   have e : fieldN (h0 :: hs) = fieldN hs := by simp [fieldN, hfd]
   rw [e]
   unfold fillV
   rw [hfd]
   simp only [Bool.false_eq_true, if_false]
   exact fill_mask r of hs fs gs u w lu lw hf hg h
  ·rw [hfd] at hf hg
   simp only [if_true] at hf hg
   have e : fieldN (h0 :: hs) = h0.name :: fieldN hs := by simp [fieldN, hfd]
   rw [e]
   cases fs with
   | nil => simp at hf; omega
   | cons f fs =>
    cases gs with
    | nil => simp at hg; omega
    | cons g gs =>
     simp only [List.length_cons] at hf hg
     have e2 : fillV (h0 :: hs) (f :: fs) u = fillV hs fs (u.set h0.name.toNat ⟨f, 0⟩) := by
      conv => lhs; unfold fillV
      rw [hfd]
      rfl
     have e3 : fillV (h0 :: hs) (maskL r of (h0.name :: fieldN hs) (f :: fs) (g :: gs)) w = fillV hs (maskL r of (fieldN hs) fs gs) (w.set h0.name.toNat ⟨if goesB (of.getD h0.name.toNat 0) r then f else g, 0⟩) := by
      conv => lhs; unfold fillV
      rw [hfd]
      rfl
     rw [e2, e3]
     refine fill_mask r of hs fs gs _ _ (by simpa using lu) (by simpa using lw) (by omega) (by omega) ?_
     cases hl : goesB (of.getD h0.name.toNat 0) r
     ·intro i hi hx
      have a := low_set_high (u := u) (v := ⟨f, 0⟩) hl i hi hx
      have b := low_set_high (u := w) (v := ⟨if (false = true) then f else g, 0⟩) hl i hi hx
      exact a.trans ((h i hi hx).trans b.symm)
     ·exact low_set_same lu lw h
theorem bill_told (r : Nat) (hr : r < 16) : ∀ (l : List Nt), (∀ x ∈ l, NtOk x) → billB (r : Int) l = (toldN r l).flatMap noteB
 | [], _ => rfl
 | x :: l, h => by
  have ih := bill_told r hr l (fun y hy => h y (by simp [hy]))
  have hx := (h x (by simp)).label
  have hs : shownN (r : Int) x = (x.kind == 0 && goesB x.label r) := by
   unfold shownN
   have e : bits .or .i64 (x.label : Int) (r : Int) = ((x.label ||| r : Nat) : Int) := i64_or_nat x.label r (by omega) (by omega)
   rw [e]
   have : (((x.label ||| r : Nat) : Int) == (r : Int)) = goesB x.label r := by
    unfold goesB
    rw [Bool.eq_iff_iff, beq_iff_eq, decide_eq_true_iff]
    omega
   rw [this]
  unfold billB
  rw [hs, ih]
  unfold toldN
  rw [List.filter_cons]
  cases (x.kind == 0 && goesB x.label r) <;> simp
theorem silent_plain {t : List UInt8} (hc : (checkP t).1 = 0) (r : Nat) (hr : r < 16) (fs gs : List Int) (hf : fs.length = countF (parseH t).2) (hg : gs.length = countF (parseH t).2) (of1 : FsOk fs) (og : FsOk gs) :
  (runP t fs).1 = 0 ∧ (runP t (maskL r (labsP t) (hdsL 63 t) fs gs)).1 = 0 ∧ (seenN r (runP t fs).2 = seenN r (runP t (maskL r (labsP t) (hdsL 63 t) fs gs)).2 → billB (r : Int) (runP t fs).2 = billB (r : Int) (runP t (maskL r (labsP t) (hdsL 63 t) fs gs)).2) := by
 have f := fineT hc
 obtain ⟨l1, l2, l3⟩ := labs_fine hc
 have hn : hdsL 63 t = fieldN (parseH t).2 := (hds_eq f.bad).1
 have hml : (maskL r (labsP t) (hdsL 63 t) fs gs).length = countF (parseH t).2 := by rw [hn, maskL_len r _ _ _ _ (by rw [fieldN_len]; exact hf) (by rw [fieldN_len]; exact hg), fieldN_len]
 have hmo := maskL_ok r (labsP t) (hdsL 63 t) fs gs of1 og
 have run : ∀ fs : List Int, fs.length = countF (parseH t).2 → runP t fs = (0, (doF 9 (fillV (parseH t).2 fs vals0, []) (parseR t).2).2) := fun fs h => by
  unfold runP
  rw [if_neg (by rw [hc]; simp), if_neg (by rw [h]; simp)]
 have n1 := runP_nts t fs of1
 have n2 := runP_nts t _ hmo
 refine ⟨by rw [run fs hf], by rw [run _ hml], fun he => ?_⟩
 rw [bill_told r hr _ n1, bill_told r hr _ n2]
 rw [run fs hf, run _ hml] at he ⊢
 simp only at he ⊢
 have hlow : LowEq r (labsP t) (fillV (parseH t).2 fs vals0) (fillV (parseH t).2 (maskL r (labsP t) (hdsL 63 t) fs gs) vals0) := by
  rw [hn]
  exact fill_mask r (labsP t) (parseH t).2 fs gs vals0 vals0 rfl rfl hf hg (fun _ _ _ => rfl)
 have hcl : cleanF (labsP t) 9 0 (parseR t).2 = none := by rw [l3]; exact f.clean
 have hinv := (doF_si r (labsP t) 9).low 0 (parseR t).2 hcl f.parse.tree (fillV (parseH t).2 fs vals0, []) (fillV (parseH t).2 (maskL r (labsP t) (hdsL 63 t) fs gs) vals0, []) ((fillV_length _ _ _).trans rfl) ((fillV_length _ _ _).trans rfl) (.inr ⟨rfl, rfl, hlow⟩)
 rcases hinv with h | ⟨_, h2, _⟩
 ·exact absurd he h.ne
 ·rw [h2]
end Go.Proofs.YtdgmoiflahoihabGreatDoor
