import Derived.Test.YtdgmoiflahoihaaGreatDoorLNmw
import Derived.OpenShut
import Derived.ChangeOld
import Derived.SizedLaws
import Derived.Deep.Slices

set_option linter.unusedSimpArgs false
set_option linter.unusedVariables false
set_option maxRecDepth 100000
set_option maxHeartbeats 8000000
namespace Go.Proofs.YtdgmoiflahoihaaGreatDoor
open Go.Proofs.Tryz
open Go.ChangeShapes Go.WideShapes Go.ChangeAt Go.RowKit
theorem b2K:prog.cellsOf 3=1:=by kernel_rfl
theorem b1W{a:Int}(h:(Lit.int .i64 a).wf=true): -9223372036854775808≤a∧a≤9223372036854775807:=by
 simp only[Lit.wf,IntKind.min,IntKind.max,IntKind.signed,IntKind.bits,Z_,a_e,a_b]at h;exact⟨by omega,by omega⟩
theorem b9l:laidOutB prog=true:=by kernel_rfl
theorem c2y{H:Type}{enc:TypeId×Value→H}{W:World}{u:Nat}{E:Option Addr}{c j:Nat}{d:DataW H}{P:List MemPlace}
  (h:DataW.trod enc prog W 0 (fun _=>true) true u 22 [.slice E c j]=some (d,P)):
  ∃(l:List Int) (g o:Nat),l.length=c∧a0u W E g o l∧a3I l∧(c=0∨∃t y,d= .slice t y∧t.length+y.length=j∧c≤j):=by
 rcases Go.Deep.open_slice1 underlying22 b2K h with⟨e,r⟩|⟨a,J,F,m,n,V,D,S,e,_,M,T,v,r,k⟩
 ·simp only[a_u,a_L,b_s]at e;obtain⟨rfl,rfl,rfl⟩:=e;exact⟨[],0,0,rfl,fun i f=>absurd f (by simp),by simp[a3I],.inl rfl⟩
 ·simp only[a_u,a_L,b_s]at e;obtain⟨rfl,rfl,rfl⟩:=e;simp only[a_b]at v;subst v;simp only[a_V]at r;obtain⟨rfl,rfl⟩:=r;have s:∀i,i<c→∃q:Int,W.cell? (a.add i)=some (i_ q)∧(-9223372036854775808≤q∧q≤9223372036854775807):=by
   intro i f;obtain⟨I,L⟩:=k i (by omega);obtain⟨O,G,_,R⟩:=a_7 underlying3 L;simp only[a_u,b_s]at G;rw[G]at I;exact⟨O,I,b1W R⟩
  obtain⟨q,B⟩:=Go.Deep.choose_lt s;by_cases N:c=0
  ·subst N;exact⟨[],0,0,rfl,fun i f=>absurd f (by simp),by simp[a3I],.inl rfl⟩
  obtain⟨b,C,w⟩:=a;have p:w=none:=by simpa[Addr.add]using World.cell?_spot (B 0 (by omega)).1
  subst p;refine⟨(List.range c).map q,b,C,by simp,?_,?_,.inr ⟨_,_,rfl,by simp;omega,M⟩⟩
  ·intro i f;simp at f;obtain⟨z,_⟩:=B i f;rw[b_A]at z;have A:b<W.heap.size:=r_ W _ z;simp only[List.getElem_map,b_x];exact⟨trivial,A,z⟩
  ·intro x r;simp at r;obtain⟨i,f,rfl⟩:=r;exact(B i f).2
end Go.Proofs.YtdgmoiflahoihaaGreatDoor
