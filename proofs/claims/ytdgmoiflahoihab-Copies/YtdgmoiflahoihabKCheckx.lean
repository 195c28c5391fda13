import Derived.Test.YtdgmoiflahoihabKText2x

namespace Go.Proofs.Ytdgmoiflahoihab
open Go.RowKit
set_option linter.unusedSimpArgs false
set_option linter.unusedVariables false
def checkP (t : List UInt8) : Int × Int :=
 if 400 < t.length then (1, 0)
 else if (parseR t).1.bad then (2, ((parseR t).1.pos : Int))
 else
  match twiceL [] (parseH t).2 with
  | some p => (3, (p : Int))
  | none =>
   if 5000 < workS 9 (parseR t).2 then (4, 0)
   else
    match cleanF (labelsP (parseH t).2 (parseR t).2) 9 0 (parseR t).2 with
    | some p => (5, (p : Int))
    | none => (0, 0)
def labsP (t : List UInt8) : List Nat := if (checkP t).1 = 0 then labelsP (parseH t).2 (parseR t).2 else zero26
structure TextC (t : List UInt8) (cs : List Value) : Prop where
 rest : ∃ vh vr aa ab na nb ca cb, vh = Value.slice aa na ca ∧ vr = Value.slice ab nb cb ∧ cs = [Value.int .i64 (checkP t).1, Value.int .i64 (checkP t).2, vh, vr] ++ (labsP t).map natV
 len : (labsP t).length = 26
theorem textC_err {t : List UInt8} {e p : Int} (h : checkP t = (e, p)) (he : e ≠ 0) : TextC t (e30 e p) := by
 have h1 : labsP t = zero26 := by unfold labsP; rw [h]; simp [he]
 exact ⟨⟨_, _, _, _, _, _, _, _, rfl, rfl, by rw [h1, h]; rfl⟩, by rw [h1]; rfl⟩
theorem text_any (s : ByteArray) (w : World) (hs : s.size ≤ maxLen) (hpo : s.size ≤ 400 → (parseR s.data.toList).1.bad = false → ParseOk s.data.toList) :
  Calls Try.prog 17 #[.string s] w fun e w' => ∃ cs, e = .returned (.agg cs.toArray) ∧ TextC s.data.toList cs ∧ Below w.heap.size w w' := by
 have hsl : s.data.toList.length = s.size := by simp
 by_cases h1 : 400 < s.size
 ·refine (text_long s w hs h1).mono ?_
  rintro e w' ⟨rfl, hb⟩
  exact ⟨_, rfl, textC_err (by unfold checkP; rw [hsl, if_pos h1]) (by decide), hb⟩
 have h : s.size ≤ 400 := by omega
 cases h2 : (parseR s.data.toList).1.bad
 case true =>
  refine (text_misform s w h h2).mono ?_
  rintro e w' ⟨rfl, hb⟩
  exact ⟨_, rfl, textC_err (by unfold checkP; rw [hsl, if_neg h1, if_pos h2]) (by decide), hb⟩
 have ho := hpo h h2
 have hn2 : ¬ (parseR s.data.toList).1.bad = true := by rw [h2]; decide
 cases h3 : twiceL [] (parseH s.data.toList).2 with
 | some p =>
  refine (text_name s w h ho h2 p h3).mono ?_
  rintro e w' ⟨rfl, hb⟩
  exact ⟨_, rfl, textC_err (by unfold checkP; rw [hsl, if_neg h1, if_neg hn2, h3]) (by decide), hb⟩
 | none =>
 by_cases h4 : 5000 < workS 9 (parseR s.data.toList).2
 ·refine (text_large s w h ho h2 h3 h4).mono ?_
  rintro e w' ⟨rfl, hb⟩
  exact ⟨_, rfl, textC_err (by unfold checkP; rw [hsl, if_neg h1, if_neg hn2, h3]; simp only; rw [if_pos h4]) (by decide), hb⟩
 cases h5 : cleanF (labelsP (parseH s.data.toList).2 (parseR s.data.toList).2) 9 0 (parseR s.data.toList).2 with
 | some p =>
  refine (text_flow s w h ho h2 h3 h4 p h5).mono ?_
  rintro e w' ⟨rfl, hb⟩
  exact ⟨_, rfl, textC_err (by unfold checkP; rw [hsl, if_neg h1, if_neg hn2, h3]; simp only; rw [if_neg h4, h5]) (by decide), hb⟩
 | none =>
  refine (text_ok s w h ho h2 h3 h4 h5).mono ?_
  rintro e w' ⟨vh, vr, rfl, hb, hvh, hvr⟩
  have hc : checkP s.data.toList = (0, 0) := by unfold checkP; rw [hsl, if_neg h1, if_neg hn2, h3]; simp only; rw [if_neg h4, h5]
  have hl : labsP s.data.toList = labelsP (parseH s.data.toList).2 (parseR s.data.toList).2 := by unfold labsP; rw [hc]; simp
  obtain ⟨ab, nb, cb, hvr2⟩ := rulesV_form hvr
  obtain ⟨aa, na, ca, hvh2⟩ : ∃ aa nn cc, vh = .slice aa nn cc := by
   rcases Joins.ownsRow_forms hvh.1 with ⟨rfl, _⟩ | ⟨g, cap, rfl⟩ <;> exact ⟨_, _, _, rfl⟩
  refine ⟨_, rfl, ⟨⟨vh, vr, aa, ab, na, nb, ca, cb, hvh2, hvr2, by rw [hc, hl]; rfl⟩, ?_⟩, hb⟩
  rw [hl]
  exact (labelsP_ok ho.heads ho.tree).len
theorem TextC.size {t : List UInt8} {cs : List Value} (h : TextC t cs) : cs.toArray.size = 30 := by
 obtain ⟨vh, vr, aa, ab, na, nb, ca, cb, rfl, rfl, rfl⟩ := h.rest
 simp [h.len]
theorem TextC.one {t : List UInt8} {cs : List Value} (h : TextC t cs) : cs.toArray.all (·.oneCell') = true := by
 obtain ⟨vh, vr, aa, ab, na, nb, ca, cb, rfl, rfl, rfl⟩ := h.rest
 apply all_oneCell_toArray
 intro v hv
 rcases List.mem_append.mp hv with h | h
 ·simp at h
  rcases h with rfl | rfl | rfl | rfl <;> rfl
 ·obtain ⟨n, _, rfl⟩ := List.mem_map.mp h
  rfl
theorem TextC.cell0 {t : List UInt8} {cs : List Value} (h : TextC t cs) : cs[0]? = some (.int .i64 (checkP t).1) := by
 obtain ⟨vh, vr, aa, ab, na, nb, ca, cb, rfl, rfl, rfl⟩ := h.rest
 rfl
end Go.Proofs.Ytdgmoiflahoihab
