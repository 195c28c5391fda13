import Derived.Test.YtdgmoiflahoihaaGreatPCheck
import Derived.Test.YtdgmoiflahoihaaGreatPPlay
import Derived.Test.YtdgmoiflahoihaaGreatRRun

/- The document's Run, as a plain function, and that the program's answers the same. -/
namespace Go.Proofs.YtdgmoiflahoihaaGreat
set_option linter.unusedSimpArgs false
set_option linter.unusedVariables false

/-- The names of the fields (heads up to B). -/
def fieldsF (C : List UInt8) (B : Nat) : Nat → Nat → Option (List Int)
  | 0, _ => none
  | f + 1, i =>
    if i < B then
      match C[i]?, C[i + 1]?, overC C i with
      | some c, some d, some o =>
        (match fieldsF C B f o with
        | some l => some (if c = 63 then ((d.toNat : Int) - 97) :: l else l)
        | none => none)
      | _, _, _ => none
    else some []

/-- The fields' names are given their values. -/
def setAll : List Int → List Int → List Vl → List Vl
  | n :: r, x :: g, vals => setAll r g (vals.set n.toNat ⟨x, 0⟩)
  | _, _, vals => vals

/-- The document's Run. -/
def runC (t : List UInt8) (fs : List Int) : Option (Int × List Nt) :=
  match checkC t with
  | none => none
  | some e =>
    if e.1 ≠ 0 then some (e.1, [])
    else
      match beginC (keptL t) with
      | none => none
      | some B =>
        match fieldsF (keptL t) B ((keptL t).length + 1) 0 with
        | none => none
        | some ns =>
          if ns.length ≠ fs.length then some (6, [])
          else
            match playF (keptL t) (atL t 0) ((keptL t).length + 1) B (keptL t).length (setAll ns fs vals0, []) with
            | some s => some (0, s.2)
            | none => none

theorem fields_eq {C : List UInt8} {A : List Int} {B : Nat} : ∀ (l : List Hd) (i f : Nat), CutHd C A i B l → B - i < f → fieldsF C B f i = some ((l.filter (·.field)).map (·.name))
  | [], i, 0, h, hf => by omega
  | [], i, f + 1, h, hf => by
    have : i = B := h
    subst this
    unfold fieldsF
    rw [if_neg (Nat.lt_irrefl _)]
    rfl
  | a :: r, i, 0, h, hf => by omega
  | a :: r, i, f + 1, h, hf => by
    obtain ⟨hlt, o, h1, h2⟩ := h
    obtain ⟨c, hc, _, hcf⟩ := h1.byte
    obtain ⟨d, hd, hn⟩ := h1.name
    have hog := over_gt h1.over
    have hoi := (cutHd_le r o B h2).1
    unfold fieldsF
    rw [if_pos hlt, hc, hd, h1.over]
    simp only
    rw [fields_eq r o f h2 (by omega)]
    simp only
    by_cases h63 : c = 63
    · rw [if_pos h63, List.filter_cons_of_pos (hcf.mp h63), List.map_cons, hn]
    · have : a.field = false := by
        cases hfa : a.field
        · rfl
        · exact absurd (hcf.mpr hfa) h63
      rw [if_neg h63, List.filter_cons_of_neg (by simp [this])]

theorem setAll_fill : ∀ (l : List Hd) (fs : List Int) (vals : List Vl), setAll ((l.filter (·.field)).map (·.name)) fs vals = fillV l fs vals
  | [], fs, vals => by cases fs <;> rfl
  | h :: r, fs, vals => by
    cases hf : h.field
    · rw [fillV_skip hf, List.filter_cons_of_neg (by simp [hf])]
      exact setAll_fill r fs vals
    · rw [List.filter_cons_of_pos hf, List.map_cons]
      cases fs with
      | nil =>
        rw [fillV_none, ← setAll_fill r [] vals]
        cases (r.filter (·.field)).map (·.name) <;> rfl
      | cons x g =>
        rw [fillV_some hf]
        exact setAll_fill r g _

/-- The program's Run answers what the document's does. -/
theorem run_eq (t : List UInt8) (fs : List Int) : runC t fs = some (runP t fs) := by
  unfold runC runP
  rw [check_eq]
  simp only
  by_cases h0 : (checkP t).1 = 0
  · rw [if_neg (by simpa using h0), if_neg (by simpa using h0)]
    obtain ⟨h1, h2, _⟩ := checkP_ok h0
    obtain ⟨_, B, hb, hH, hT⟩ := (parse_spec t).2 h2
    have hB := begin_le hb
    rw [hb]
    simp only
    rw [fields_eq _ 0 _ hH (by omega)]
    simp only [List.length_map]
    have hc : (List.filter (fun x => x.field) (parseH t).2).length = countF (parseH t).2 := rfl
    rw [hc]
    by_cases hl : countF (parseH t).2 = fs.length
    · rw [if_neg (by simpa using hl), if_neg (by simpa using hl.symm), play_eq 9 _ B _ _ _ hT (Nat.le_refl _) (by omega), setAll_fill]
    · rw [if_pos hl, if_pos (fun e => hl e.symm)]
  · rw [if_pos h0, if_pos h0]

end Go.Proofs.YtdgmoiflahoihaaGreat
