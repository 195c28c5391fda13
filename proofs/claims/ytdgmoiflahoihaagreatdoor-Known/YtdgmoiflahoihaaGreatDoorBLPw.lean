import Derived.Test.YtdgmoiflahoihaaGreatDoorBDXw
import Derived.Test.YtdgmoiflahoihaaGreatDoorXD5w
import Derived.Lib.ItoaNum

namespace Go.Proofs.YtdgmoiflahoihaaGreatDoor
open Go.RowKit
set_option linter.unusedSimpArgs false
set_option linter.unusedVariables false
theorem dec_same (n : Nat) : Lib.decDigits n = decB n := by
 induction n using Nat.strongRecOn with
 | _ n ih =>
  rw [Lib.decDigits, decB]
  by_cases h : n < 10
  ·rw [dif_pos h, dif_pos h]
  ·rw [dif_neg h, dif_neg h, ih (n / 10) (by omega)]
theorem itoa_int (n : Int) : Lib.itoa n = intB n := by
 unfold Lib.itoa intB
 by_cases h : n < 0
 ·rw [if_pos h, if_pos h, dec_same]
 ·rw [if_neg h, if_neg h, dec_same, show n.toNat = n.natAbs by omega]
structure NtOk (x : Nt) : Prop where
 place : x.place ≤ 400
 val : VlOk x.val
 label : x.label < 16
structure SrOk (s : SR) : Prop where
 st : StOk s
 nts : ∀ x ∈ s.2, NtOk x
theorem nts_more {l : List Nt} {x : Nt} (h : ∀ y ∈ l, NtOk y) (hx : NtOk x) : ∀ y ∈ l ++ [x], NtOk y := by
 intro y hy
 rcases List.mem_append.mp hy with hy | hy
 ·exact h y hy
 ·rw [List.mem_singleton.mp hy]; exact hx
theorem repS_sr {f : SR → SR} (hf : ∀ s, SrOk s → SrOk (f s)) : ∀ (n : Nat) (s : SR), SrOk s → SrOk (repS f n s)
 | 0, s, h => h
 | n + 1, s, h => repS_sr hf n (f s) (hf s h)
theorem doT_sr {α : Type} {nums : List α → Prop} {rec : SR → List α → SR} (hr : ∀ s l, nums l → SrOk s → SrOk (rec s l)) (s : SR) (q : Core × List α × List α) (hp : ∀ p ∈ q.1.parts, PtNum p) (h1 : nums q.2.1) (h2 : nums q.2.2) (hpl : q.1.place ≤ 400 ∧ q.1.label < 16) (h : SrOk s) : SrOk (doT rec s q) := by
 have hv := valueV_ok h.st.ok hp
 unfold doT
 split
 ·exact ⟨h.st.set hv _ _, h.nts⟩
 split
 ·exact ⟨h.st.set hv _ _, nts_more h.nts ⟨hpl.1, hv, hpl.2⟩⟩
 split
 ·exact ⟨⟨h.st.len, h.st.ok⟩, nts_more h.nts ⟨hpl.1, hv, hpl.2⟩⟩
 split
 ·split
  ·exact h
  split
  ·exact hr s _ h1 h
  ·exact hr s _ h2 h
 ·exact repS_sr (f := fun s => rec s q.2.1) (fun s hs => hr s _ h1 hs) _ s h
theorem doL_sr {α : Type} {nums : List α → Prop} {rec : SR → List α → SR} (hr : ∀ s l, nums l → SrOk s → SrOk (rec s l)) : ∀ (l : List (Core × List α × List α)) (s : SR), (∀ q ∈ l, (∀ p ∈ q.1.parts, PtNum p) ∧ nums q.2.1 ∧ nums q.2.2 ∧ q.1.place ≤ 400 ∧ q.1.label < 16) → SrOk s → SrOk (doL rec s l)
 | [], s, _, h => h
 | q :: r, s, hl, h => by
  obtain ⟨a1, a2, a3, a4⟩ := hl q (by simp)
  exact doL_sr hr r (doT rec s q) (fun x hx => hl x (by simp [hx])) (doT_sr hr s q a1 a2 a3 a4 h)
theorem doF_sr : ∀ (n : Nat) (l : List (RT n)) (s : SR), NumsOk n l → TreeOk n l → SrOk s → SrOk (doF n s l)
 | 0, l, s, _, _, h => h
 | n + 1, l, s, hn, ht, h =>
  doL_sr (nums := fun l => NumsOk n l ∧ TreeOk n l) (fun s l hl hs => doF_sr n l s hl.1 hl.2 hs) l s (fun q hq => ⟨(hn q hq).1, ⟨(hn q hq).2.1, (ht.2 q hq).2.1⟩, ⟨(hn q hq).2.2, (ht.2 q hq).2.2⟩, (ht.2 q hq).1.place, (ht.2 q hq).1.label⟩) h
theorem runP_nts (t : List UInt8) (fs : List Int) (hf : FsOk fs) : ∀ x ∈ (runP t fs).2, NtOk x := by
 unfold runP
 split
 ·simp
 rename_i h0
 split
 ·simp
 have h0' : (checkP t).1 = 0 := by simpa using h0
 obtain ⟨h1, h2, h3, h4, h5⟩ := checkP_ok h0'
 have hp := parse_ok h1 h2
 have hfo := fillV_ok (parseH t).2 fs vals0 hf rfl (fun v hv => by have := List.eq_of_mem_replicate hv; rw [this]; exact vl0_ok)
 exact (doF_sr 9 (parseR t).2 (fillV (parseH t).2 fs vals0, []) (parse_nums t) hp.tree ⟨⟨hfo.1, hfo.2⟩, by simp⟩).nts
def shownN (r : Int) (x : Nt) : Bool := (x.kind == 0) && (bits .or .i64 (x.label : Int) r == r)
def noteB (x : Nt) : List UInt8 := lineB ⟨x.place, x.val⟩ ++ [10]
def billB (r : Int) : List Nt → List UInt8
 | [] => []
 | x :: l => (if shownN r x then noteB x else []) ++ billB r l
def billP (r : Int) (e : Int × List Nt) : Int × List UInt8 := if e.1 ≠ 0 then (e.1, []) else if r < 0 ∨ 15 < r then (9, []) else (0, billB r e.2)
theorem intB_len20 (x : Int) (h : -9223372036854775808 ≤ x ∧ x ≤ 9223372036854775807) : (intB x).length ≤ 20 := by
 have hlen := decB_len 18 x.natAbs (Nat.lt_of_le_of_lt (show x.natAbs ≤ 9223372036854775808 by omega) (by decide))
 unfold intB
 split
 ·simp only [List.length_cons]; omega
 ·omega
theorem worthB_len21 {v : Vl} (h : VlOk v) : (worthB v).length ≤ 21 := by
 have h1 := intB_len20 v.num h.num
 have h2 := intB_len20 v.fault (by have := h.fault; omega)
 unfold worthB
 split
 ·simp only [List.length_cons]; omega
 ·omega
theorem noteB_len {x : Nt} (h : NtOk x) : (noteB x).length ≤ 50 := by
 have h1 := intB_len20 (x.place : Int) (by have := h.place; omega)
 have h2 := worthB_len21 h.val
 unfold noteB lineB
 simp only [List.length_append, List.length_cons, List.length_nil]
 omega
end Go.Proofs.YtdgmoiflahoihaaGreatDoor
