import Derived.Test.YtdgmoiflahoihaaGreatDoorAbw
import Derived.Test.YtdgmoiflahoihaaGreatDoorRows
import Derived.ProofKit
import Derived.Lib.SmallJoins
import Derived.Lib.OwnKind
import Derived.Laws.Rows
import Derived.Laws.Tables

set_option linter.unusedSimpArgs false
set_option linter.unusedVariables false
set_option maxRecDepth 100000
set_option maxHeartbeats 8000000
namespace Go.Proofs.YtdgmoiflahoihaaGreatDoor
open Go.Proofs.Tryz
open Go.RowKit
def a0u(w:World)(a:Option Addr)(g o:Nat)(l:List Int):Prop:=∀i,∀hi:i<l.length,a=some ⟨g,o,none⟩∧g<w.heap.size∧w.cell? ⟨g,o+i,none⟩=some (.int .i64 l[i])
theorem a0u.below{w w':World}{d:Option Addr}{g o:Nat}{l:List Int}(h:a0u w d g o l)(e:B__ w w'):a0u w' d g o l:=by
 intro i f;obtain⟨a,b,c⟩:=h i f;exact⟨a,Q_ b e.size,(e.cell (p:=(a__ g _)) b).trans c⟩
def a2k(l:List Int):List Value:=l.map (Value.int .i64)
theorem a8k(l:List Int):(a2k l).length=l.length:=by simp[a2k]
theorem c0Q(l:List Int):∀v∈a2k l,v.oneCell'=true:=by
 intro v h;simp[a2k]at h;obtain⟨a,_,rfl⟩:=h;rfl
theorem b7h:(prog.info? 3).map (fun i=>(i.zero,i.size,i.bytes))=some (some (i_ 0),1,8):=by kernel_rfl
theorem c4j:(prog.info? 3).map (·.size)=some 1:=by kernel_rfl
theorem a6h{w:World}{g:Nat}{l:List Int}{t:TypeId}{r:List Value}(h:w.heap[g]? =some (.cells (a2k l++r).toArray t (0,0))):a0u w (some (a__ g 0)) g 0 l:=by
 have b:=a8k l;intro i a;refine⟨rfl,(z_.mp h).1,?_⟩;rw[F_ _ _ _ _ _ _ h,a_m];simp only[a_h];rw[S_ (by omega)];simp[a2k,s_ a]
theorem b5M{w:World}{b:Nat}{v:Value}{l:List Int}(h:w.ownsRow b 3 1 v l.length (a2k l)):∃d g a,v= .slice d l.length a∧a0u w d g 0 l:=by
 rcases h.2 with⟨rfl,f⟩|⟨g,a,e,rfl,k,n,m,o,j,p⟩
 ·exact⟨none,0,0,by rw[f],fun i c=>absurd c (by omega)⟩
 ·refine⟨some (a__ g 0),g,a,rfl,fun i c=>⟨rfl,(h.lt g rfl).2,?_⟩⟩;rw[a_m,h.cellAt i (by omega)];simp[a2k,s_ c]
def a3I(fs:List Int):Prop:=∀x∈fs,-9223372036854775808≤x∧x≤9223372036854775807
end Go.Proofs.YtdgmoiflahoihaaGreatDoor
