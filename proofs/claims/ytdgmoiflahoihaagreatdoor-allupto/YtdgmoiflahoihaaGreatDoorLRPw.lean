import Derived.Test.YtdgmoiflahoihaaGreatDoorXPw

set_option linter.unusedSimpArgs false
set_option linter.unusedVariables false
set_option maxRecDepth 100000
set_option maxHeartbeats 8000000
namespace Go.Proofs.YtdgmoiflahoihaaGreatDoor
open Go.Proofs.Tryz
open Go.RowKit
theorem b0Q(t:List UInt8)(fs:List Int)(f:a3I fs):(a1L t fs).2.length≤5000:=by
 unfold a1L
 split
 ·simp
 rename_i c
 split
 ·simp
 have b:(a0s t).1=0:=by simpa using c
 obtain⟨d,e,i,j,l⟩:=a5P b;have g:=a24 d e;have a:=a7y (a0t t).2 fs a1x f rfl (fun v h=>by have:=a_G h;rw[this];exact a99);have k:=(b3l 9 (a0n t).2 (a2d (a0t t).2 fs a1x,[]) (a7h t) g.tree ⟨a.1,a.2⟩).2;simp at k;show(doF 9 (a2d (a0t t).2 fs a1x,[]) (a0n t).2).2.length≤5000;omega
theorem b2m{w:World}{g a:Nat}{l:List Int}(h:a0u w (some (a__ g 0)) g 0 l):a6t w (fun k=>k<w.heap.size) (.slice (some (a__ g 0)) l.length a) l:=
 ⟨some (a__ g 0),g,a,rfl,fun i d=>by
  obtain⟨_,b,c⟩:=h i d;rw[a_m]at c;exact⟨rfl,b,c⟩⟩
theorem b7W(s:ByteArray)(fs:List Int)(g a:Nat)(w:World)(f:s.size≤maxLen)(e:a0u w (some (a__ g 0)) g 0 fs)(b:fs.length≤maxLen)(c:a3I fs):
  Calls prog 41 #[.string s,.slice (some (a__ g 0)) fs.length a] w (a3w w (a1L s.data.toList fs)):=
 b2x s fs _ w (fun k=>k<w.heap.size) f (fun h d=>a24 (by simpa using h) d) (fun _=>a7h _) (b2m e) (fun _ h=>h) b c
theorem b84(s:ByteArray)(fs:List Int)(g a:Nat)(w:World)(f:s.size≤maxLen)(e:a0u w (some (a__ g 0)) g 0 fs)(b:fs.length≤maxLen)(c:a3I fs):
  Calls prog 18 #[.string s,.slice (some (a__ g 0)) fs.length a] w (a3w w (a1L s.data.toList fs)):=
 b6y s fs _ w (fun k=>k<w.heap.size) f (fun h d=>a24 (by simpa using h) d) (fun _=>a7h _) (b2m e) (fun _ h=>h) b c
end Go.Proofs.YtdgmoiflahoihaaGreatDoor
