import Derived.Test.YtdgmoiflahoihabPFlw

namespace Go.Proofs.Ytdgmoiflahoihab
set_option linter.unusedSimpArgs false
set_option linter.unusedVariables false
structure Shut (hs : List Hd) (E : List Fl) (s : Nat) (P : Nat → Prop) : Prop where
 head : ∀ x m : Nat, hdOf hs x = some m → m &&& s ≠ 0 → P x
 sec : ∀ (x : Nat) (fl : Fl), hdOf hs x = none → fl ∈ E → fl.dst = (x : Int) → fl.frm < 0 → fl.sec.toNat &&& s ≠ 0 → P x
 edge : ∀ (x y : Nat) (fl : Fl), hdOf hs x = none → fl ∈ E → fl.dst = (x : Int) → fl.frm = (y : Int) → P y → P x
def Has (hs : List Hd) (E : List Fl) (s x : Nat) : Prop := ∀ P, Shut hs E s P → P x
theorem Has.head {hs : List Hd} {E : List Fl} {s x m : Nat} (h : hdOf hs x = some m) (hb : m &&& s ≠ 0) : Has hs E s x := fun P c => c.head x m h hb
theorem Has.sec {hs : List Hd} {E : List Fl} {s x : Nat} {fl : Fl} (h : hdOf hs x = none) (hm : fl ∈ E) (hd : fl.dst = (x : Int)) (hf : fl.frm < 0) (hb : fl.sec.toNat &&& s ≠ 0) : Has hs E s x := fun P c => c.sec x fl h hm hd hf hb
theorem Has.edge {hs : List Hd} {E : List Fl} {s x y : Nat} {fl : Fl} (h : hdOf hs x = none) (hm : fl ∈ E) (hd : fl.dst = (x : Int)) (hf : fl.frm = (y : Int)) (hy : Has hs E s y) : Has hs E s x := fun P c => c.edge x y fl h hm hd hf (hy P c)
theorem bit_iff (S y : Nat) : S &&& 2 ^ y ≠ 0 ↔ S.testBit y = true := by
 constructor
 ·intro h
  obtain ⟨j, hj⟩ := Nat.exists_testBit_of_ne_zero h
  rw [Nat.testBit_and, Nat.testBit_two_pow] at hj
  simp at hj
  obtain ⟨h1, rfl⟩ := hj
  exact h1
 ·intro h e
  have := congrArg (fun n => n.testBit y) e
  simp [Nat.testBit_and, Nat.testBit_two_pow, h] at this
def Fine (hs : List Hd) (s S z : Nat) : Prop := S.testBit z = true ∨ ∃ m, hdOf hs z = some m ∧ ¬ m &&& s ≠ 0
def EdgeOk (hs : List Hd) (s S : Nat) (fl : Fl) : Prop := ¬ (fl.frm < 0 ∧ fl.sec.toNat &&& s ≠ 0) ∧ (0 ≤ fl.frm → Fine hs s S fl.frm.toNat)
def Done (hs : List Hd) (E : List Fl) (s S y : Nat) : Prop := hdOf hs y = none ∧ ∀ fl ∈ E, fl.dst = (y : Int) → EdgeOk hs s S fl
theorem Fine.mono {hs : List Hd} {s S T z : Nat} (h : Fine hs s S z) (hm : ∀ y, S.testBit y = true → T.testBit y = true) : Fine hs s T z := h.imp (hm z) id
theorem EdgeOk.mono {hs : List Hd} {s S T : Nat} {fl : Fl} (h : EdgeOk hs s S fl) (hm : ∀ y, S.testBit y = true → T.testBit y = true) : EdgeOk hs s T fl := ⟨h.1, fun e => (h.2 e).mono hm⟩
theorem Done.mono {hs : List Hd} {E : List Fl} {s S T y : Nat} (h : Done hs E s S y) (hm : ∀ y, S.testBit y = true → T.testBit y = true) : Done hs E s T y := ⟨h.1, fun fl hf hd => (h.2 fl hf hd).mono hm⟩
structure Srch (hs : List Hd) (E : List Fl) (s S T : Nat) : Prop where
 more : ∀ y, S.testBit y = true → T.testBit y = true
 done : ∀ y, T.testBit y = true → S.testBit y = false → Done hs E s T y
theorem Srch.refl (hs : List Hd) (E : List Fl) (s S : Nat) : Srch hs E s S S := ⟨fun _ => id, fun y h h' => by rw [h] at h'; cases h'⟩
theorem Srch.trans {hs : List Hd} {E : List Fl} {s S T U : Nat} (h : Srch hs E s S T) (k : Srch hs E s T U) : Srch hs E s S U := by
 refine ⟨fun y e => k.more y (h.more y e), fun y e1 e2 => ?_⟩
 cases ht : T.testBit y with
 | false => exact k.done y e1 ht
 | true => exact (h.done y ht e2).mono k.more
end Go.Proofs.Ytdgmoiflahoihab
namespace Go.Proofs.Ytdgmoiflahoihab
set_option linter.unusedSimpArgs false
set_option linter.unusedVariables false
theorem nameFl_mem {dst : Int} {inn y : Nat} : ∀ n, n ≤ 26 → 26 - n ≤ y → y < 26 → inn &&& 2 ^ y ≠ 0 → (⟨dst, (y : Int), 0⟩ : Fl) ∈ nameFl dst inn n
 | 0, _, h1, h2, _ => by omega
 | n + 1, hn, h1, h2, hb => by
  unfold nameFl
  by_cases e : 25 - n = y
  ·subst e
   rw [if_pos hb]
   simp
  ·exact List.mem_append_right _ (nameFl_mem n (by omega) (by omega) h2 hb)
theorem nameFl_of {dst : Int} {inn : Nat} {fl : Fl} : ∀ n, fl ∈ nameFl dst inn n → fl.dst = dst ∧ ∃ y : Nat, y < 26 ∧ fl.frm = (y : Int) ∧ inn &&& 2 ^ y ≠ 0
 | 0, h => by cases h
 | n + 1, h => by
  unfold nameFl at h
  rcases List.mem_append.mp h with h | h
  ·split at h
   ·rename_i hb
    simp at h
    subst h
    exact ⟨rfl, 25 - n, by omega, rfl, hb⟩
   ·cases h
  ·exact nameFl_of n h
theorem labL_bit {of : List Nat} {k : Nat} : ∀ (P : List Pt), (labL of P 0).testBit k = true → ∃ p ∈ P, p.op = 2 ∧ (of.getD p.num.toNat 0).testBit k = true
 | [], h => by simp [labL] at h
 | p :: r, h => by
  rw [labL_cons, labL_or] at h
  rw [Nat.testBit_or] at h
  rcases Bool.or_eq_true_iff.mp h with h | h
  ·split at h
   ·rename_i h2
    exact ⟨p, by simp, h2, by simpa using h⟩
   ·simp at h
  ·obtain ⟨q, hq, h2⟩ := labL_bit r h
   exact ⟨q, by simp [hq], h2⟩
theorem nmBits_mem : ∀ {P : List Pt} {p : Pt}, p ∈ P → p.op = 2 → (nmBits P).testBit p.num.toNat = true
 | [], p, h, _ => by cases h
 | q :: r, p, h, h2 => by
  unfold nmBits
  rw [Nat.testBit_or]
  rcases List.mem_cons.mp h with rfl | h
  ·rw [if_pos h2, Nat.testBit_two_pow]; simp
  ·rw [nmBits_mem h h2]; simp
theorem nmBits_of {of : List Nat} {k y : Nat} : ∀ {P : List Pt}, (nmBits P).testBit y = true → (of.getD y 0).testBit k = true → (labL of P 0).testBit k = true
 | [], h, _ => by simp [nmBits] at h
 | q :: r, h, hk => by
  unfold nmBits at h
  rw [Nat.testBit_or] at h
  rw [labL_cons, labL_or, Nat.testBit_or]
  rcases Bool.or_eq_true_iff.mp h with h | h
  ·split at h
   ·rename_i h2
    rw [if_pos h2]
    rw [Nat.testBit_two_pow] at h
    have e : q.num.toNat = y := by simpa using h
    rw [e, Nat.zero_or, hk]
    rfl
   ·simp at h
  ·rw [nmBits_of h hk]; simp
def Snd (hs : List Hd) (E : List Fl) (of : List Nat) : Prop := ∀ x k, x < 26 → (of.getD x 0).testBit k = true → Has hs E (2 ^ k) x
def GdS (hs : List Hd) (E : List Fl) (g G : Nat) : Prop := ∀ k, g.testBit k = true → ∃ y, y < 26 ∧ G &&& 2 ^ y ≠ 0 ∧ Has hs E (2 ^ k) y
structure Step (hs : List Hd) (E : List Fl) (fx : List Bool) (a b : LS) : Prop where
 len : b.1.length = 26
 snd : Snd hs E b.1
 fix : ∀ x, fx.getD x false = true → b.1.getD x 0 = a.1.getD x 0
theorem Step.refl {hs : List Hd} {E : List Fl} {fx : List Bool} {a : LS} (hl : a.1.length = 26) (h : Snd hs E a.1) : Step hs E fx a a := ⟨hl, h, fun _ _ => rfl⟩
theorem Step.trans {hs : List Hd} {E : List Fl} {fx : List Bool} {a b c : LS} (h : Step hs E fx a b) (k : Step hs E fx b c) : Step hs E fx a c := ⟨k.len, k.snd, fun x hx => (k.fix x hx).trans (h.fix x hx)⟩
theorem getD_set {α : Type} (l : List α) (i j : Nat) (v d : α) (hi : i < l.length) : (l.set i v).getD j d = if i = j then v else l.getD j d := by
 rw [List.getD_eq_getElem?_getD, List.getD_eq_getElem?_getD, List.getElem?_set]
 split
 ·rename_i h; subst h; simp [hi]
 ·rfl
theorem enlP_step {hs : List Hd} {E : List Fl} {fx : List Bool} {st : LS} (hl : st.1.length = 26) (h : Snd hs E st.1) {k lab : Nat} (hk : k < 26) (hb : fx.getD k false = false → ∀ j, lab.testBit j = true → Has hs E (2 ^ j) k) : Step hs E fx st (enlP fx st k lab) := by
 unfold enlP
 split
 ·exact Step.refl hl h
 ·rename_i hc
  have hfx : fx.getD k false = false := by
   cases hf : fx.getD k false with
   | false => rfl
   | true => rw [hf] at hc; simp at hc
  refine ⟨by simp [hl], fun x j hx hj => ?_, fun x hx => ?_⟩
  ·simp only at hj
   rw [getD_set _ _ _ _ _ (by omega)] at hj
   split at hj
   ·rename_i e
    subst e
    rw [Nat.testBit_or] at hj
    rcases Bool.or_eq_true_iff.mp hj with hj | hj
    ·exact h _ j hx hj
    ·exact hb hfx j hj
   ·exact h x j hx hj
  ·simp only
   rw [getD_set _ _ _ _ _ (by omega), if_neg]
   intro e
   subst e
   rw [hfx] at hx; cases hx
theorem gds_or {hs : List Hd} {E : List Fl} {g G : Nat} {of : List Nat} {P : List Pt} (hP : ∀ p ∈ P, PtOk p) (hg : GdS hs E g G) (h : Snd hs E of) : GdS hs E (g ||| labL of P 0) (G ||| nmBits P) := by
 intro k hk
 rw [Nat.testBit_or] at hk
 rcases Bool.or_eq_true_iff.mp hk with hk | hk
 ·obtain ⟨y, y1, y2, y3⟩ := hg k hk
  refine ⟨y, y1, (bit_iff _ _).mpr ?_, y3⟩
  rw [Nat.testBit_or, (bit_iff _ _).mp y2]; rfl
 ·obtain ⟨p, hp, h2, hb⟩ := labL_bit P hk
  obtain ⟨n0, n1⟩ := hP p hp h2
  refine ⟨p.num.toNat, by omega, (bit_iff _ _).mpr ?_, h _ k (by omega) hb⟩
  rw [Nat.testBit_or, nmBits_mem hp h2]; simp
def RecStep {α : Type} (hs : List Hd) (E : List Fl) (fx : List Bool) (ok : List α → Prop) (fl : Nat → List α → List Fl) (rec : LS → List α → Nat → LS) : Prop :=
 ∀ st l g G, st.1.length = 26 → Snd hs E st.1 → ok l → GdS hs E g G → (∀ q ∈ fl G l, q ∈ E) → Step hs E fx st (rec st l g)
theorem enlR_step {α : Type} {hs : List Hd} {E : List Fl} {fx : List Bool} {ok : List α → Prop} {flr : Nat → List α → List Fl} {rec : LS → List α → Nat → LS} (hfx : ∀ x, x < 26 → fx.getD x false = false → hdOf hs x = none) (hr : RecStep hs E fx ok flr rec) {st : LS} (hl : st.1.length = 26) (h : Snd hs E st.1) {q : Core × List α × List α} (hq : CoreOk q.1) (h1 : ok q.2.1) (h2 : ok q.2.2) {g G : Nat} (hg : GdS hs E g G) (ho : ∀ f ∈ ownT q.1 G, f ∈ E) (e1 : ∀ f ∈ flr (innT q.1 G) q.2.1, f ∈ E) (e2 : ∀ f ∈ flr (innT q.1 G) q.2.2, f ∈ E) : Step hs E fx st (enlR rec fx st q g) := by
 have hgo := gds_or hq.parts hg h
 unfold enlR
 split
 ·rename_i hk
  obtain ⟨n0, n1⟩ := hq.name (.inl hk)
  refine enlP_step hl h (by omega) fun hf j hj => ?_
  obtain ⟨y, y1, y2, y3⟩ := hgo j hj
  have hi : innT q.1 G = G ||| nmBits q.1.parts := by unfold innT; rw [if_neg (by omega)]
  refine .edge (fl := ⟨q.1.name, (y : Int), 0⟩) (y := y) (hfx _ (by omega) hf) (ho _ ?_) (by simp only; omega) rfl y3
  unfold ownT
  rw [if_pos (.inl hk), hi]
  exact List.mem_append_left _ (nameFl_mem 26 (Nat.le_refl _) (by omega) y1 y2)
 split
 ·rename_i hk0 hk
  obtain ⟨n0, n1⟩ := hq.name (.inr hk)
  have hi : innT q.1 G = G := by unfold innT; rw [if_pos (.inl hk)]
  refine enlP_step hl h (by omega) fun hf j hj => ?_
  rw [Nat.testBit_or] at hj
  rcases Bool.or_eq_true_iff.mp hj with hj | hj
  ·obtain ⟨y, y1, y2, y3⟩ := hg j hj
   refine .edge (fl := ⟨q.1.name, (y : Int), 0⟩) (y := y) (hfx _ (by omega) hf) (ho _ ?_) (by simp only; omega) rfl y3
   unfold ownT
   rw [if_pos (.inr hk), hi]
   exact List.mem_append_left _ (nameFl_mem 26 (Nat.le_refl _) (by omega) y1 y2)
  ·have hpos : 0 < q.1.label := by
    cases hz : q.1.label with
    | zero => rw [hz] at hj; simp at hj
    | succ _ => omega
   refine .sec (fl := ⟨q.1.name, -1, (q.1.label : Int)⟩) (hfx _ (by omega) hf) (ho _ ?_) (by simp only; omega) (show (-1 : Int) < 0 by decide) ?_
   ·unfold ownT
    rw [if_pos (.inr hk), if_pos ⟨hk, hpos⟩]
    exact List.mem_append_right _ (by simp)
   ·exact (bit_iff _ _).mpr (by simpa using hj)
 split
 ·rename_i hk
  have hi : innT q.1 G = G ||| nmBits q.1.parts := by unfold innT; rw [if_neg (by omega)]
  rw [← hi] at hgo
  have a := hr st q.2.1 _ _ hl h h1 hgo e1
  exact a.trans (hr _ q.2.2 _ _ a.len a.snd h2 hgo e2)
 ·exact Step.refl hl h
theorem enlL_step {α : Type} {hs : List Hd} {E : List Fl} {fx : List Bool} {ok : List α → Prop} {flr : Nat → List α → List Fl} {rec : LS → List α → Nat → LS} (hfx : ∀ x, x < 26 → fx.getD x false = false → hdOf hs x = none) (hr : RecStep hs E fx ok flr rec) : ∀ (l : List (Core × List α × List α)) (st : LS) (g G : Nat), st.1.length = 26 → Snd hs E st.1 → (∀ q ∈ l, CoreOk q.1 ∧ ok q.2.1 ∧ ok q.2.2) → GdS hs E g G → (∀ f ∈ flL flr G l, f ∈ E) → Step hs E fx st (enlL rec fx st l g)
 | [], st, g, G, hl, h, _, _, _ => Step.refl hl h
 | q :: r, st, g, G, hl, h, hq, hg, he => by
  obtain ⟨a, b, c⟩ := hq q (by simp)
  have he' : ∀ f ∈ ownT q.1 G ++ flr (innT q.1 G) q.2.1 ++ flr (innT q.1 G) q.2.2 ++ flL flr G r, f ∈ E := he
  have k := enlR_step hfx hr hl h a b c hg (fun f hf => he' f (by simp [hf])) (fun f hf => he' f (by simp [hf])) (fun f hf => he' f (by simp [hf]))
  exact k.trans (enlL_step hfx hr r _ g G k.len k.snd (fun x hx => hq x (by simp [hx])) hg (fun f hf => he' f (by simp [hf])))
theorem enlF_step {hs : List Hd} {E : List Fl} {fx : List Bool} (hfx : ∀ x, x < 26 → fx.getD x false = false → hdOf hs x = none) : ∀ n, RecStep hs E fx (TreeOk n) (flT n) (enlF fx n)
 | 0 => fun st l g G hl h _ _ _ => Step.refl hl h
 | n + 1 => fun st l g G hl h ht hg he => enlL_step hfx (enlF_step hfx n) l st g G hl h ht.2 hg he
theorem labLoop_end {hs : List Hd} {E : List Fl} {fx : List Bool} {l : List (RT 9)} (hfx : ∀ x, x < 26 → fx.getD x false = false → hdOf hs x = none) (ht : TreeOk 9 l) (he : ∀ f ∈ flT 9 0 l, f ∈ E) : ∀ (k : Nat) (of : List Nat), OfOk of → Snd hs E of → 391 ≤ k + of.sum →
  ∃ of', labLoop fx l k of = of' ∧ OfOk of' ∧ Snd hs E of' ∧ (∀ x, fx.getD x false = true → of'.getD x 0 = of.getD x 0) ∧ (enlF fx 9 (of', false) l 0).2 = false
 | 0, of, ho, _, hk => by have := ho.sum_le; omega
 | k + 1, of, ho, h, hk => by
  have hgr := enlF_grow fx 9 (of, false) l 0 ho ht (by omega)
  have hst := enlF_step (E := E) hfx 9 (of, false) l 0 0 ho.len h ht (fun k hk => by simp at hk) he
  unfold labLoop
  cases hf : (enlF fx 9 (of, false) l 0).2 with
  | false =>
   have hsame := hgr.same rfl hf
   simp only [Bool.false_eq_true, if_false]
   refine ⟨_, rfl, hgr.ok, hst.snd, hst.fix, ?_⟩
   rw [hsame]
   exact hf
  | true =>
   simp only [if_true]
   have hmore : of.sum < (enlF fx 9 (of, false) l 0).1.sum := by
    rcases hgr.more hf with h | h
    ·cases h
    ·exact h
   obtain ⟨of', e, e1, e2, e3, e4⟩ := labLoop_end hfx ht he k _ hgr.ok hst.snd (by omega)
   exact ⟨of', e, e1, e2, fun x hx => (e3 x hx).trans (hst.fix x hx), e4⟩
end Go.Proofs.Ytdgmoiflahoihab
namespace Go.Proofs.Ytdgmoiflahoihab
set_option linter.unusedSimpArgs false
set_option linter.unusedVariables false
def FlSat (fx : List Bool) (of : List Nat) (fl : Fl) : Prop :=
 fx.getD fl.dst.toNat false = true ∨ ∀ k, (0 ≤ fl.frm → (of.getD fl.frm.toNat 0).testBit k = true → (of.getD fl.dst.toNat 0).testBit k = true) ∧ (fl.frm < 0 → fl.sec.toNat.testBit k = true → (of.getD fl.dst.toNat 0).testBit k = true)
theorem goes_bit {a b k : Nat} (h : goesB a b = true) (hk : a.testBit k = true) : b.testBit k = true := by
 have e : a ||| b = b := by simpa [goesB] using h
 rw [← e, Nat.testBit_or, hk]
 rfl
def GdC (of : List Nat) (g G : Nat) : Prop := ∀ y k, y < 26 → G &&& 2 ^ y ≠ 0 → (of.getD y 0).testBit k = true → g.testBit k = true
theorem gdc_or {of : List Nat} {g G : Nat} {P : List Pt} (h : GdC of g G) : GdC of (g ||| labL of P 0) (G ||| nmBits P) := by
 intro y k hy hb hk
 have hb' := (bit_iff _ _).mp hb
 rw [Nat.testBit_or] at hb' ⊢
 rcases Bool.or_eq_true_iff.mp hb' with h1 | h1
 ·rw [h y k hy ((bit_iff _ _).mpr h1) hk]; rfl
 ·rw [nmBits_of h1 hk]; simp
theorem own_sat {fx : List Bool} {of : List Nat} {c : Core} {g G lab : Nat} (hn : 0 ≤ c.name ∧ c.name < 26) (hk : c.kind = 0 ∨ c.kind = 1) (hg : GdC of lab (innT c G)) (hlab : c.kind = 1 → ∀ k, c.label.testBit k = true → lab.testBit k = true) (h : fx.getD c.name.toNat false = true ∨ goesB lab (of.getD c.name.toNat 0) = true) : ∀ fl ∈ ownT c G, FlSat fx of fl := by
 intro fl hf
 unfold ownT at hf
 rw [if_pos hk] at hf
 rcases List.mem_append.mp hf with hf | hf
 ·obtain ⟨hd, y, y1, y2, y3⟩ := nameFl_of 26 hf
  unfold FlSat
  rw [hd]
  refine h.imp id fun h k => ⟨fun _ hb => ?_, fun hneg => by omega⟩
  rw [y2] at hb
  exact goes_bit h (hg y k y1 y3 (by simpa using hb))
 ·split at hf
  ·rename_i hc
   simp at hf
   subst hf
   refine h.imp id fun h k => ⟨fun hneg => (by simp only at hneg; omega), fun _ hb => ?_⟩
   exact goes_bit h (hlab hc.1 k (by simpa using hb))
  ·cases hf
def BareL {α : Type} (flr : Nat → List α → List Fl) (rec : List α → Prop) : List (Core × List α × List α) → Prop := fun l => ∀ q ∈ l, (¬ (q.1.kind = 3 ∨ q.1.kind = 4) → ∀ G, flr G q.2.1 = [] ∧ flr G q.2.2 = []) ∧ rec q.2.1 ∧ rec q.2.2
def BareT (n : Nat) : List (RT n) → Prop :=
 match n with
 | 0 => fun _ => True
 | n + 1 => fun l => BareL (flT n) (BareT n) l
theorem has_in {hs : List Hd} {E : List Fl} {fx : List Bool} {of : List Nat} (hfx : ∀ x m, hdOf hs x = some m → of.getD x 0 = m) (hfn : ∀ x, hdOf hs x = none → fx.getD x false = false) (hE : ∀ fl ∈ E, FlSat fx of fl) {k x : Nat} (h : Has hs E (2 ^ k) x) : (of.getD x 0).testBit k = true := by
 refine h (fun x => (of.getD x 0).testBit k = true) ⟨?_, ?_, ?_⟩
 ·intro x m h hb
  rw [hfx _ _ h]
  exact (bit_iff _ _).mp hb
 ·intro x fl h hm hd hf hb
  rcases hE _ hm with h1 | h1
  ·rw [hd, Int.toNat_natCast, hfn _ h] at h1; cases h1
  ·have := (h1 k).2 hf ((bit_iff _ _).mp hb)
   rwa [hd, Int.toNat_natCast] at this
 ·intro x y fl h hm hd hf ih
  rcases hE _ hm with h1 | h1
  ·rw [hd, Int.toNat_natCast, hfn _ h] at h1; cases h1
  ·have := (h1 k).1 (by omega)
   rw [hd, hf, Int.toNat_natCast, Int.toNat_natCast] at this
   exact this ih
end Go.Proofs.Ytdgmoiflahoihab
namespace Go.Proofs.Ytdgmoiflahoihab
set_option linter.unusedSimpArgs false
set_option linter.unusedVariables false
theorem twice_none {n : Int} : ∀ (l pre : List Hd), twiceL pre l = none → hasN pre n = true → ∀ h ∈ l, ¬ h.name = n
 | [], pre, _, _, h, hh => by cases hh
 | a :: r, pre, ht, hp, h, hh => by
  rw [twiceL_cons] at ht
  cases hb : hasN pre a.name with
  | true => rw [hb, if_pos rfl] at ht; cases ht
  | false =>
   rw [hb] at ht
   simp only [Bool.false_eq_true, if_false] at ht
   rcases List.mem_cons.mp hh with rfl | hh
   ·intro e
    rw [e, hp] at hb; cases hb
   ·exact twice_none r _ ht (by unfold hasN at hp ⊢; rw [List.any_append, hp]; rfl) h hh
theorem hdOf_none {k : Nat} : ∀ (l : List Hd), (∀ h ∈ l, ¬ h.name = (k : Int)) → hdOf l k = none
 | [], _ => rfl
 | a :: r, h => by
  unfold hdOf
  rw [if_neg (h a (by simp))]
  exact hdOf_none r fun x hx => h x (by simp [hx])
theorem headLab_one {k : Nat} : ∀ (l pre : List Hd) (x : List Nat × List Bool), twiceL pre l = none → (∀ h ∈ l, HdOk h) → x.1.length = 26 → x.2.length = 26 →
  (headLab l x).1.getD k 0 = (match hdOf l k with | some m => m | none => x.1.getD k 0) ∧ (headLab l x).2.getD k false = ((hdOf l k).isSome || x.2.getD k false) ∧ (headLab l x).2.length = 26
 | [], pre, x, _, _, _, h2 => ⟨rfl, by simp [headLab, hdOf], h2⟩
 | a :: r, pre, x, ht, hh, h1, h2 => by
  obtain ⟨n0, n1, _, _⟩ := hh a (by simp)
  rw [twiceL_cons] at ht
  cases hb : hasN pre a.name with
  | true => rw [hb, if_pos rfl] at ht; cases ht
  | false =>
  rw [hb] at ht
  simp only [Bool.false_eq_true, if_false] at ht
  obtain ⟨i1, i2, i3⟩ := headLab_one r (pre ++ [a]) (x.1.set a.name.toNat a.label, x.2.set a.name.toNat true) ht (fun h hx => hh h (by simp [hx])) (by simp [h1]) (by simp [h2])
  rw [headLab_cons]
  refine ⟨?_, ?_, i3⟩
  ·rw [i1]
   simp only
   rw [getD_set _ _ _ _ _ (by omega)]
   by_cases e : a.name = (k : Int)
   ·have hn : hdOf r k = none := hdOf_none r (by
     rw [← e]
     exact twice_none r _ ht (by unfold hasN; rw [List.any_append]; simp))
    rw [hn]
    unfold hdOf
    rw [if_pos e, if_pos (by omega)]
   ·rw [if_neg (by omega)]
    conv => rhs; unfold hdOf
    rw [if_neg e]
  ·rw [i2]
   simp only
   rw [getD_set _ _ _ _ _ (by omega)]
   by_cases e : a.name = (k : Int)
   ·unfold hdOf
    rw [if_pos e, if_pos (by omega)]
    simp
   ·rw [if_neg (by omega)]
    conv => rhs; unfold hdOf
    rw [if_neg e]
theorem cutT_none {C : List UInt8} {A : List Int} {n lo G : Nat} {l : List (RT n)} (h : CutT C A n lo lo l) : flT n G l = [] := by
 cases n with
 | zero => rfl
 | succ n =>
  cases l with
  | nil => rfl
  | cons q r => exact absurd h.1 (Nat.lt_irrefl _)
theorem cutT_bare {C : List UInt8} {A : List Int} : ∀ (n lo hi : Nat) (l : List (RT n)), CutT C A n lo hi l → BareT n l
 | 0, _, _, _, _ => trivial
 | n + 1, lo, hi, l, h => by
  have key : ∀ (l : List (Core × List (RT n) × List (RT n))) (lo hi : Nat), CutL (fun i o q => CutOne C A (CutT C A n) i o q) lo hi l → BareL (flT n) (BareT n) l := by
   intro l
   induction l with
   | nil => intro lo hi _ q hq; cases hq
   | cons a r ih =>
    intro lo hi h q hq
    obtain ⟨hlt, o, h1, h2⟩ := h
    rcases List.mem_cons.mp hq with rfl | hq
    ·obtain ⟨tw, hb, hb1, hb2⟩ := h1.blocks
     refine ⟨fun hk G => ?_, cutT_bare n _ _ _ hb1, cutT_bare n _ _ _ hb2⟩
     obtain ⟨c, hc, hc42, hc40, _, _⟩ := h1.byte
     have hi := over_lt h1.over
     have hcc : C[lo] = c := (List.getElem?_eq_some_iff.mp hc).2
     rw [blocks_at h1.over hi, if_neg (by rw [hcc]; exact fun e => hk (.inl (hc40.mp e))), if_neg (by rw [hcc]; exact fun e => hk (.inr (hc42.mp e)))] at hb
     cases hb
     exact ⟨cutT_none hb1, cutT_none hb2⟩
    ·exact ih o hi h2 q hq
  exact key l lo hi h
theorem cutHd_ok {t : List UInt8} (ht : t.length ≤ 400) : ∀ (l : List Hd) (lo hi : Nat), CutHd (keptL t) (atL t 0) lo hi l → ∀ h ∈ l, HdOk h
 | [], _, _, _, h, hh => by cases hh
 | a :: r, lo, hi, hc, h, hh => by
  obtain ⟨hlt, o, h1, h2⟩ := hc
  rcases List.mem_cons.mp hh with rfl | hh
  ·obtain ⟨d, hd, hn⟩ := h1.name
   obtain ⟨j, hl⟩ := h1.label
   have hp := at_lt h1.place
   have := labelC_lt16 hl
   have hr := h1.ok
   exact ⟨by omega, by omega, this, by omega⟩
  ·exact cutHd_ok ht r o hi h2 h hh
theorem parse_ok {t : List UInt8} (ht : t.length ≤ 400) (hbad : (parseR t).1.bad = false) : ParseOk t := by
 obtain ⟨_, B, hb, h1, h2⟩ := (parse_spec t).2 hbad
 have hk := kept_le t
 have hB := begin_le hb
 have hle := (cutHd_le _ _ _ h1).2
 exact ⟨cutHd_ok ht _ _ _ h1, by omega, cutT_ok ht 9 _ _ _ (by omega) h2, work_lt40 h2 (Nat.le_refl _) (by omega)⟩
end Go.Proofs.Ytdgmoiflahoihab
