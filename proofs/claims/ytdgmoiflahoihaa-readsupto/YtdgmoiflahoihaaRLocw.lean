import Derived.Test.YtdgmoiflahoihaaREx4w

namespace Go.Proofs.Ytdgmoiflahoihaa
open Go.RowKit
set_option linter.unusedSimpArgs false
set_option linter.unusedVariables false
structure Stp (t : List UInt8) (r r' : Rd) : Prop where
 pos : r.pos ≤ r'.pos
 le : r'.pos ≤ t.length
 depth : r'.depth = r.depth
 bad : r.bad = true → r'.bad = true
theorem Stp.trans {t : List UInt8} {x y z : Rd} (h : Stp t x y) (k : Stp t y z) : Stp t x z :=
 ⟨Nat.le_trans h.pos k.pos, k.le, k.depth.trans h.depth, fun e => k.bad (h.bad e)⟩
end Go.Proofs.Ytdgmoiflahoihaa
namespace Go.Proofs.Ytdgmoiflahoihaa
open Go.RowKit
set_option linter.unusedSimpArgs false
set_option linter.unusedVariables false
theorem run_append_fresh {P : Program} (w : World) (base : Nat) (t ty e : TypeId) (i : TypeInfo) (z : Value) (size bytes : Nat) (ht : P.underlying t = some (.slice e)) (hi : P.info? e = some i) (hz : i.zero = some z)
  (hsize : i.size = size) (hby : i.bytes = bytes) (hzs : z.cells.size = size) (hsz : 0 < size)
  (v : Value) (n : Nat) (xs : List Value) (hown : w.ownsRow base e size v n xs)
  (a : Addr) (m c : Nat) (news : List Value) (hl : news.length = m * size) (hnews : ∀ j u, news[j]? = some u → w.cell? (a.add j) = some u) (h1 : ∀ u ∈ news, u.oneCell' = true)
  (h63 : n + m ≤ maxLen) (hbytes : (n + m) * bytes ≤ 140737488355328) (hbase : base ≤ w.heap.size) (hm : 0 < m) :
  ∃ v' w', (Builtin.append_ #[t, t] ty #[v, .slice (some a) m c]).run P w = .ok v' w' ∧ w'.ownsRow base e size v' (n + m) (xs ++ news) ∧ w.grownBy w' v.ownBlock ∧ (v'.ownBlock = v.ownBlock ∨ ∃ g, v'.ownBlock = some g ∧ w.heap.size ≤ g) := by
 obtain ⟨v', w', hr, h2, h3, _⟩ := run_append_own (P := P) w base t ty e i z size bytes ht hi hz hsize hby hzs hsz v n xs hown a m c news hl hnews h1 h63 hbytes hbase
 refine ⟨v', w', hr, h2, h3, ?_⟩
 subst hsize
 subst hby
 have hsmall : n + m ≤ 9223372036854775807 := by simp only [maxLen] at h63; omega
 rcases hown.2 with ⟨rfl, rfl⟩ | ⟨g, cap, cur, rfl, hbg, hg, hnc, hcm, hcs, htake⟩
 ·have q := Go.run_append_nil (P := P) w t ty e i z ht hi hz a m c news hl hnews hm (by omega) (by have hb := hbytes; simp only [Nat.zero_add] at hb; omega)
  rw [q] at hr
  cases hr
  exact .inr ⟨w.heap.size, rfl, Nat.le_refl _⟩
 ·by_cases hroom : n + m ≤ cap
  ·have hfit : n * i.size + news.length ≤ cur.size := by rw [hl, hcs, ← Nat.add_mul]; exact Nat.mul_le_mul_right _ hroom
   have q := run_append_room (P := P) w t ty e i ht hi g n cap cur hg a m c news hl hnews h1 hroom hfit
   rw [q] at hr
   cases hr
   exact .inl rfl
  ·have holds : ∀ j u, xs[j]? = some u → w.cell? ((⟨g, 0, none⟩ : Addr).add j) = some u := hown.cells (g := g) rfl
   have q := run_append_grow (P := P) w t ty e i z ht hi hz ⟨g, 0, none⟩ n cap xs hown.1 holds a m c news hl hnews (by omega) (by omega) (growslice_fits (by omega) hbytes)
   rw [q] at hr
   cases hr
   exact .inr ⟨w.heap.size, rfl, Nat.le_refl _⟩
theorem wpList_append_fresh {P : Program} {w : World} {ops : Array Oper} {rest : List Oper} {o : Oper} {a : Act} {Q : Exit → Act → World → Prop} (hgd : o.guard = none) (s x : Operand) (t : TypeId)
  (ho : o.op = .call { callee := .builtin .append, args := #[s, x], argTypes := #[t, t] })
  (base : Nat) (e : TypeId) (i : TypeInfo) (z : Value) (size bytes : Nat) (ht : P.underlying t = some (.slice e)) (hi : P.info? e = some i) (hz : i.zero = some z)
  (hsize : i.size = size) (hby : i.bytes = bytes) (hzs : z.cells.size = size) (hsz : 0 < size)
  (v : Value) (n : Nat) (xs : List Value) (hs : a.eval s = v) (hown : w.ownsRow base e size v n xs)
  (ad : Addr) (m c : Nat) (news : List Value) (hx : a.eval x = .slice (some ad) m c) (hl : news.length = m * size) (hnews : ∀ j u, news[j]? = some u → w.cell? (ad.add j) = some u) (h1 : ∀ u ∈ news, u.oneCell' = true)
  (h63 : n + m ≤ maxLen) (hbytes : (n + m) * bytes ≤ 140737488355328) (hbase : base ≤ w.heap.size) (hm : 0 < m)
  (h : ∀ v' w', w'.ownsRow base e size v' (n + m) (xs ++ news) → w.grownBy w' v.ownBlock → (v'.ownBlock = v.ownBlock ∨ ∃ g, v'.ownBlock = some g ∧ w.heap.size ≤ g) → wpList P ops Q rest (a.put o.dst v') w') : wpList P ops Q (o :: rest) a w := by
 obtain ⟨v', w', hr, h2, h3, h4⟩ := run_append_fresh (P := P) w base t o.type e i z size bytes ht hi hz hsize hby hzs hsz v n xs hown ad m c news hl hnews h1 h63 hbytes hbase hm
 refine wpList_plain hgd fun _ hK => ?_
 unfold Oper.wp
 simp [execOp, ho, resolve, invoke, builtin, hs, hx, hr, Result.andThen]
 exact hK _ _ (h v' w' h2 h3 h4)
theorem own_same {w w' : World} {base size n : Nat} {e : TypeId} {v : Value} {xs : List Value} (h : w.ownsRow base e size v n xs) (hk : ∀ k, v.ownBlock = some k → k < w.heap.size → w'.heap[k]? = w.heap[k]?) : w'.ownsRow base e size v n xs := by
 refine ⟨h.1, ?_⟩
 rcases h.2 with h0 | ⟨g, cap, cur, h1, h2, h3, h4⟩
 ·exact .inl h0
 ·refine .inr ⟨g, cap, cur, h1, h2, ?_, h4⟩
  rw [hk g (by rw [h1]; rfl) (Array.getElem?_eq_some_iff.mp h3).1, h3]
theorem parts_of_info {p : Program} {t : TypeId} {z : Value} {a b : Nat} (h : (p.info? t).map (fun i => (i.zero, i.size, i.bytes)) = some (some z, a, b)) : ∃ i, p.info? t = some i ∧ i.zero = some z ∧ i.size = a ∧ i.bytes = b := by
 cases e : p.info? t with
 | none => rw [e] at h; cases h
 | some i => rw [e] at h; simp at h; exact ⟨i, rfl, h.1, h.2.1, h.2.2⟩
end Go.Proofs.Ytdgmoiflahoihaa
namespace Go.Proofs.Ytdgmoiflahoihaa
open Go.RowKit
set_option linter.unusedSimpArgs false
set_option linter.unusedVariables false
theorem But.setNew {b : Nat} {w W : World} (h : But b w W) (a : Addr) (u : Value) (ha : w.heap.size ≤ a.block) : But b w (W.setCell a u) := by
 obtain ⟨h1, h2, h3, h4, h5⟩ := h
 refine ⟨h1, h2, h3, by simpa using h4, fun k hk hne => ?_⟩
 rw [Below.heap_setCell _ _ _ _ (by omega)]
 exact h5 k hk hne
theorem But.alloc {b : Nat} {w W : World} (h : But b w W) (o : Obj) : But b w (W.alloc o) := by
 obtain ⟨h1, h2, h3, h4, h5⟩ := h
 refine ⟨h1, h2, h3, by simp; omega, fun k hk hne => ?_⟩
 rw [Below.heap_alloc _ _ _ (by omega)]
 exact h5 k hk hne
structure Loc (W w : World) (b : Nat) (s : ByteArray) (r : Rd) (v0 v1 v2 v3 v4 v5 v6 v7 : Value) : Prop where
 rd : ReaderAt W b s r nilS
 g0 : W.cell? ⟨w.heap.size + 1, 0, none⟩ = some v0
 g1 : W.cell? ⟨w.heap.size + 1, 1, none⟩ = some v1
 g2 : W.cell? ⟨w.heap.size + 1, 2, none⟩ = some v2
 g3 : W.cell? ⟨w.heap.size + 1, 3, none⟩ = some v3
 g4 : W.cell? ⟨w.heap.size + 1, 4, none⟩ = some v4
 g5 : W.cell? ⟨w.heap.size + 1, 5, none⟩ = some v5
 g6 : W.cell? ⟨w.heap.size + 1, 6, none⟩ = some v6
 g7 : W.cell? ⟨w.heap.size + 1, 7, none⟩ = some v7
 gf : ∀ o, W.frozen? ⟨w.heap.size + 1, o, none⟩ = false
 h0 : W.cell? ⟨w.heap.size, 0, none⟩ = some (.int .i64 0)
 h1 : W.cell? ⟨w.heap.size, 1, none⟩ = some (.int .i64 0)
 h2 : W.cell? ⟨w.heap.size, 2, none⟩ = some (.int .i64 0)
 h3 : W.cell? ⟨w.heap.size, 3, none⟩ = some (.int .i64 0)
 h4 : W.cell? ⟨w.heap.size, 4, none⟩ = some (.int .i64 0)
 h5 : W.cell? ⟨w.heap.size, 5, none⟩ = some (.slice none 0 0)
 h6 : W.cell? ⟨w.heap.size, 6, none⟩ = some (.slice none 0 0)
 h7 : W.cell? ⟨w.heap.size, 7, none⟩ = some (.slice none 0 0)
 hf : ∀ o, W.frozen? ⟨w.heap.size, o, none⟩ = false
 but : But b w W
 size : w.heap.size + 2 ≤ W.heap.size
 lt : b < w.heap.size
theorem Loc.call {W W' w : World} {b : Nat} {s : ByteArray} {r r' : Rd} {v0 v1 v2 v3 v4 v5 v6 v7 : Value} (L : Loc W w b s r v0 v1 v2 v3 v4 v5 v6 v7) (hr : ReaderAt W' b s r' nilS) (hb : But b W W') : Loc W' w b s r' v0 v1 v2 v3 v4 v5 v6 v7 := by
 have hs := L.size
 have hl := L.lt
 have k1 : W'.heap[w.heap.size + 1]? = W.heap[w.heap.size + 1]? := hb.block _ (by omega) (fun e => by cases e; omega)
 have k0 : W'.heap[w.heap.size]? = W.heap[w.heap.size]? := hb.block _ (by omega) (fun e => by cases e; omega)
 exact ⟨hr, (World.cell?_of_block (a := ⟨w.heap.size + 1, 0, none⟩) k1).trans L.g0, (World.cell?_of_block (a := ⟨w.heap.size + 1, 1, none⟩) k1).trans L.g1, (World.cell?_of_block (a := ⟨w.heap.size + 1, 2, none⟩) k1).trans L.g2, (World.cell?_of_block (a := ⟨w.heap.size + 1, 3, none⟩) k1).trans L.g3, (World.cell?_of_block (a := ⟨w.heap.size + 1, 4, none⟩) k1).trans L.g4, (World.cell?_of_block (a := ⟨w.heap.size + 1, 5, none⟩) k1).trans L.g5, (World.cell?_of_block (a := ⟨w.heap.size + 1, 6, none⟩) k1).trans L.g6, (World.cell?_of_block (a := ⟨w.heap.size + 1, 7, none⟩) k1).trans L.g7, fun o => (World.frozen?_of_block (a := ⟨w.heap.size + 1, o, none⟩) k1).trans (L.gf o), (World.cell?_of_block (a := ⟨w.heap.size, 0, none⟩) k0).trans L.h0, (World.cell?_of_block (a := ⟨w.heap.size, 1, none⟩) k0).trans L.h1, (World.cell?_of_block (a := ⟨w.heap.size, 2, none⟩) k0).trans L.h2, (World.cell?_of_block (a := ⟨w.heap.size, 3, none⟩) k0).trans L.h3, (World.cell?_of_block (a := ⟨w.heap.size, 4, none⟩) k0).trans L.h4, (World.cell?_of_block (a := ⟨w.heap.size, 5, none⟩) k0).trans L.h5, (World.cell?_of_block (a := ⟨w.heap.size, 6, none⟩) k0).trans L.h6, (World.cell?_of_block (a := ⟨w.heap.size, 7, none⟩) k0).trans L.h7, fun o => (World.frozen?_of_block (a := ⟨w.heap.size, o, none⟩) k0).trans (L.hf o), L.but.trans hb, Nat.le_trans hs hb.size, hl⟩
end Go.Proofs.Ytdgmoiflahoihaa
