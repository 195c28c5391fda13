import Derived.Test.YtdgmoiflahoihaaGreatDoorALSw
import Derived.Test.YtdgmoiflahoihaaGreatDoorLOw
import Derived.Test.YtdgmoiflahoihaaGreatDoorCards
import Derived.Test.YtdgmoiflahoihaaGreatDoorTie
import Derived.ShutString
import Derived.JoinedCond
import Derived.LaidSub
import Derived.Deep.DeepHandedRow

set_option linter.unusedSimpArgs false
set_option linter.unusedVariables false
set_option maxRecDepth 100000
set_option maxHeartbeats 8000000
namespace Go.Proofs.YtdgmoiflahoihaaGreatDoor
open Go.Proofs.Tryz
open Go.ChangeShapes Go.WideShapes Go.ChangeAt Go.RowKit Go.Deep
theorem c3O:prog.cellsOf 87=4:=by kernel_rfl
def c6C(x:Ic):Prop:=(-9223372036854775808≤x.op∧x.op≤9223372036854775807)∧(-9223372036854775808≤x.a∧x.a≤9223372036854775807)∧(-9223372036854775808≤x.b∧x.b≤9223372036854775807)∧(-9223372036854775808≤x.c∧x.c≤9223372036854775807)
theorem c4I{H:Type}{enc:TypeId×Value→H}{W:World}{B:Nat}{R:Option Addr}{e r:Nat}{d:DataW H}{ps:List MemPlace}
  (h:DataW.trod enc prog W 0 (fun _=>true) true B 36 [.slice R e r]=some (d,ps)):
  ∃(l:List Ic) (g o:Nat),l.length=e∧a0D W R g o l∧(∀x∈l,c6C x)∧(e=0∨∃A I,d= .slice A I∧A.length+I.length=r∧e≤r):=by
 rcases open_slice underlying36 h with⟨j,u⟩|⟨a,Aa,S,m,n,D,Pl,j,_,hl,hm,E,u,f⟩
 ·simp only[a_u,a_L,b_s]at j;obtain⟨rfl,rfl,rfl⟩:=j;exact⟨[],0,0,rfl,fun i p=>absurd p (by simp),by simp,.inl rfl⟩
 ·simp only[a_u,a_L,b_s]at j;obtain⟨rfl,rfl,rfl⟩:=j;simp only[a_b]at E;subst E;simp only[a_V]at u;obtain⟨rfl,rfl⟩:=u;rw[c3O]at f;have z:∀i,i<e→∃q:Ic,W.cell? (a.add (i*4))=some (i_ q.op)∧W.cell? (a.add (i*4+1))=some (i_ q.a)∧W.cell? (a.add (i*4+2))=some (i_ q.b)∧W.cell? (a.add (i*4+3))=some (i_ q.c)∧c6C q:=by
   intro i p;obtain⟨M,h1,h2⟩:=f i (by omega);obtain⟨_,C,J⟩:=World.cells?_some h1;obtain⟨xs,k,hk,Ab,_,F,L⟩:=DataW.trod_struct underlying87 h2
   match M,C with
   | [v0,v1,v2,v3],_=>
    have Y:=L 0 _ rfl;have Z:=L 1 _ rfl;have g2:=L 2 _ rfl;have g3:=L 3 _ rfl;simp[b2K]at Y Z g2 g3;simp at F
    match xs,F with
    | [y0,y1,y2,y3],_=>
     obtain⟨n0,T,_,w0⟩:=a_7 underlying3 Y;obtain⟨n1,U,_,w1⟩:=a_7 underlying3 Z;obtain⟨n2,V,_,w2⟩:=a_7 underlying3 g2;obtain⟨n3,X,_,w3⟩:=a_7 underlying3 g3;simp only[a_u,b_s]at T U V X;subst T U V X;have t:=J 0 (by omega);have v:=J 1 (by omega);have w:=J 2 (by omega);have y:=J 3 (by omega);rw[Go.Deep.add_add]at t v w y;exact⟨⟨n0,n1,n2,n3⟩,by simpa using t,by simpa using v,by simpa using w,by simpa using y,b1W w0,b1W w1,b1W w2,b1W w3⟩
  have Ac:Inhabited Ic:=⟨⟨0,0,0,0⟩⟩
  obtain⟨q,O⟩:=choose_lt z;by_cases hz:e=0
  ·subst hz;exact⟨[],0,0,rfl,fun i p=>absurd p (by simp),by simp,.inl rfl⟩
  obtain⟨b,P,G⟩:=a;have s:G=none:=by simpa[Addr.add]using World.cell?_spot (O 0 (by omega)).1
  subst s;refine⟨(List.range e).map q,b,P,by simp,?_,?_,.inr ⟨_,_,rfl,by simp;omega,hl⟩⟩
  ·intro i p;simp at p;obtain⟨t,v,w,y,_⟩:=O i p;rw[b_A]at t v w y;have N:b<W.heap.size:=r_ W _ t;simp only[List.getElem_map,b_x];refine⟨trivial,N,t,?_,?_,?_⟩
   ·rw[b_r];exact v
   ·rw[b_r];exact w
   ·rw[b_r];exact y
  ·intro x u;simp at u;obtain⟨i,p,rfl⟩:=u;exact(O i p).2.2.2.2
theorem c5A:prog.cellsOf 41=5:=by kernel_rfl
theorem c3R:prog.cellsOf 9=1:=by kernel_rfl
theorem c3Q:prog.cellsOf 22=1:=by kernel_rfl
theorem c3P:prog.cellsOf 36=1:=by kernel_rfl
theorem c3N{H:Type}(d:DataW H):1≤Rows.uptoBulk d:=by
 unfold Rows.uptoBulk
 split<;>omega
theorem b0g{H:Type} :∀(l:List (DataW H)),l.length≤Rows.uptoBulkAll l
 | []=>by simp[Rows.uptoBulkAll]
 |d::r=>by
  have:=b0g r;have:=c3N d;simp only[Rows.uptoBulkAll,B_];omega
theorem b6N{H:Type}{d:DataW H} :∀ {l:List (DataW H)},d∈l→Rows.uptoBulk d≤Rows.uptoBulkAll l
 |e::r,h=>by
  simp only[Rows.uptoBulkAll];rcases X_.mp h with rfl|h
  ·omega
  ·have:=b6N h;omega
theorem b3g{H:Type}{d:DataW H}{c e:Nat}(f:Rows.uptoBulk d≤1048576)(h:c=0∨∃a b,d= .slice a b∧a.length+b.length=e∧c≤e):c≤1048576:=by
 rcases h with h|⟨a,b,rfl,g,i⟩
 ·omega
 ·have j:=b0g a;have k:=b0g b;simp only[Rows.uptoBulk]at f;omega
theorem b8c{H:Type}{enc:TypeId×Value→H}{W:World}{c:Nat}{t e:TypeId}{v:Value}{x:DataW H×List MemPlace}(j:prog.underlying t=some (.slice e))(h:DataW.trod enc prog W 0 (fun _=>true) true c t [v]=some x):∃a f d,v= .slice a f d:=by
 rcases open_slice j h with⟨b,_⟩|⟨a,i,g,_,_,_,_,b,_⟩
 ·simp only[a_u,b_s]at b;exact⟨_,_,_,b⟩
 ·simp only[a_u,b_s]at b;exact⟨_,_,_,b⟩
theorem c4K{H:Type}{enc:TypeId×Value→H}{W:World}{B:Nat}{a0:Option Addr}{e O:Nat}{d:DataW H}{ps:List MemPlace}
  (h:DataW.trod enc prog W 0 (fun _=>true) true B 29 [.slice a0 e O]=some (d,ps)) (hb:Rows.uptoBulk d≤1048576):
  ∃(l:List OpR) (g o:Nat),l.length=e∧b96 W a0 g o l∧l.length≤1048576:=by
 rcases open_slice underlying29 h with⟨r,J⟩|⟨a,Ac,Ab,m,n,D,Pl,r,_,hl,hm,I,J,p⟩
 ·simp only[a_u,a_L,b_s]at r;obtain⟨rfl,rfl,rfl⟩:=r;exact⟨[],0,0,rfl,fun i t=>absurd t (by simp),by simp⟩
 ·simp only[a_u,a_L,b_s]at r;obtain⟨rfl,rfl,rfl⟩:=r;simp only[a_b]at I;subst I;simp only[a_V]at J;obtain⟨rfl,rfl⟩:=J;rw[c5A]at p;simp only[Rows.uptoBulk]at hb;have G:e≤1048576:=by
   have:=b0g ((List.range e).map D);simp at this;omega
  have A:∀i,i<e→∃q:OpR,(∀j u,q.cells[j]? =some u→W.cell? (a.add (i*5+j))=some u)∧b2F W q:=by
   intro i t;obtain⟨P,h1,h2⟩:=p i (by omega);have C:Rows.uptoBulk (D i)≤1048576:=by
    have:=b6N (List.mem_map_of_mem (f:=D) (List.mem_range.mpr t));omega
   obtain⟨_,w,hc⟩:=World.cells?_some h1;obtain⟨xs,k,hk,M,_,L,F⟩:=DataW.trod_struct underlying41 h2
   match P,w with
   | [v0,v1,v2,v3,v4],_=>
    have g0:=F 0 _ rfl;have g1:=F 1 _ rfl;have R:=F 2 _ rfl;have g3:=F 3 _ rfl;have S:=F 4 _ rfl;simp[b2K,c3R,c3Q,c3P]at g0 g1 R g3 S;simp at L
    match xs,L with
    | [y0,y1,⟨d2,p2⟩,y3,⟨d4,p4⟩],_=>
     obtain⟨n0,e0,_,w0⟩:=a_7 underlying3 g0;obtain⟨s,e1,x1,_⟩:=DataW.trod_string underlying9 g1;obtain⟨n3,e3,_,w3⟩:=a_7 underlying3 g3;simp only[a_u,b_s]at e0 e1 e3;subst e0 e1 e3;obtain⟨a2,l2,c2,rfl⟩:=b8c underlying22 R;obtain⟨a4,l4,c4,rfl⟩:=b8c underlying36 S;obtain⟨fs,gf,of,Y,hN,U,E⟩:=c2y R;obtain⟨cl,gc,oc,X,hC,T,v⟩:=c4I S;simp only[a_V,List.map_cons,List.map_nil]at M;rw[M.1]at C;subst x1;simp only[Rows.uptoBulk,Rows.uptoBulkAll]at C;have es:s.data.toList.length=s.size:=by rw[Array.length_toList];rfl
     have k2:=b3g (by omega) E;have k4:=b3g (by omega) v;refine⟨⟨n0,s,fs,a2,gf,of,c2,n3,cl,a4,gc,oc,c4⟩,fun j u c=> ?_,⟨by simp only;omega,hN,by simp only;omega,U,hC,by simp only;omega,fun x J=>(T x J).2.2.1⟩⟩;subst Y X;have z:∀j,j<5→W.cell? (a.add (i*5+j))=some (([i_ n0,.string s,.slice a2 fs.length c2,i_ n3,.slice a4 cl.length c4]:List Value).getD j undef):=fun j hj=>by
      have:=hc j hj;rw[Go.Deep.add_add]at this;rw[this]
      match j,hj with
      |0,_=>rfl
      |1,_=>rfl
      |2,_=>rfl
      |3,_=>rfl
      |4,_=>rfl
     match j,c with
     |0,c=>exact(z 0 (by decide)).trans c
     |1,c=>exact(z 1 (by decide)).trans c
     |2,c=>exact(z 2 (by decide)).trans c
     |3,c=>exact(z 3 (by decide)).trans c
     |4,c=>exact(z 4 (by decide)).trans c
     |j+5,c=>simp[OpR.cells]at c
  have Ad:Inhabited OpR:=⟨⟨0,ByteArray.empty,[],none,0,0,0,0,[],none,0,0,0⟩⟩
  obtain⟨q,hq⟩:=choose_lt A;by_cases hz:e=0
  ·subst hz;exact⟨[],0,0,rfl,fun i t=>absurd t (by simp),by simp⟩
  obtain⟨b,Aa,N⟩:=a;have y:N=none:=by simpa[Addr.add]using World.cell?_spot ((hq 0 (by omega)).1 0 _ rfl)
  subst y;refine⟨(List.range e).map q,b,Aa,by simp,?_,by simpa using G⟩;intro i t;simp at t;obtain⟨c0,Z⟩:=hq i t;have V:b<W.heap.size:=r_ W _ (by have:=c0 0 _ rfl;rw[b_A]at this;exact this);simp only[List.getElem_map,b_x];refine⟨trivial,V,fun j u c=> ?_,Z⟩;have:=c0 j u c;rw[b_A,←b_r]at this;exact this
open Go.ChangeShapes Go.WideShapes Go.ChangeAt Go.RowKit
open Go.ChangeMaps (open_string shut_string)
theorem c5v:ownKnob prog.godebug=none:=by kernel_rfl
theorem b9h{W:World}(h:laidMetH prog Rows.allUptoRow.laid W):a2c W:=by
 have a := h.filter (fun x => x.1 == "internal/strconv.uint64pow10");have e : Rows.allUptoRow.laid.filter (fun x => x.1 == "internal/strconv.uint64pow10") = [("internal/strconv.uint64pow10", Lib.tabData .u64 Lib.pow10Tab)] := by rfl
 rw[e]at a;exact Lib.tabIs_of_head (rest:= []) (g:=0) (by kernel_rfl) (by kernel_rfl) underlying241 underlying110 (by kernel_rfl) (by kernel_rfl) a
theorem b6J(H:Type)(enc:TypeId×Value→H)(W:World)(i:Nat)(a:Array Value)(A I:List (DataW H))(d:List MemPlace)
  (c:∀(j:Nat) t v,f4.params[j]? =some t→a[j]? =some v→Value.okWide prog W .any i t v)
  (M:DataW.Whole enc prog f4.params.toList Rows.allSpec.vars false W a.toList A I d) (N:Rows.uptoSmall H (A++I)=true) (T:laidMetH prog Rows.allUptoRow.laid W):
  Calls prog 4 a W fun e n=>∃v,e= .returned v∧Rows.allSpec.post enc prog f4 false true false false W a v n:=by
 have m:∀(j:Nat) t v,f4.params[j]? =some t→a[j]? =some v→Value.okWide prog W .any i t v:=c;have r:=M;obtain⟨p,q,s,V,rfl,Y,Aa⟩:=M;have L:DataW.TrodAll enc prog W 0 (fun _=>true) true f4.params.toList a.toList A p:=s;rw[params4]at L m;obtain⟨R,Ab,z,S,P,q0,D,rfl,rfl,J,r0⟩:=trodAll_cons L;obtain⟨rfl,rfl,rfl⟩:=trodAll_nil r0;obtain rfl:a= #[R]:=by cases a;simp_all
 obtain⟨rfl,rfl⟩:=trodVars_none V;obtain⟨G,y,k,rfl⟩:=okWide_slice underlying29 (m 0 29 R rfl rfl);have C:=J;obtain⟨B,u⟩:=J;clear s c;simp only[a_i,a_t]at r N;have E:Rows.uptoBulk z≤1048576:=by
  have h:Rows.uptoBulkAll [z]≤1048576:=of_decide_eq_true N;simpa only[Rows.uptoBulkAll,a_P]using h
 have w:∀x∈P,x.block<W.heap.size:=fun x hx=>by simpa using r.lt x (by simp[hx])
 have f:∀(n:World),B__ W n→DataW.Trod enc prog n 0 (fun b=>decide (b<W.heap.size)) true 29 (.slice G y k) z P:=
  fun n hn=>Below.trod b9l (by kernel_rfl) (of_decide_eq_true (by kernel_rfl)) C hn w
 simp only[Value.cells]at u;obtain⟨l,g,o,F,U,Z⟩:=c4K u E;have O:=c3F l G g o k W U Z (b9h T);rw[F]at O;refine O.mono fun e n ⟨X,bel⟩=> ?_
 subst X;exact⟨_,rfl,_,_,_,[],_,[],r,trodAll_mk1 (shut_bool underlying4 _),trodAll_cons_mk (f n bel) trodAll_mk0,rfl,bel.frame _,fun h=>by cases h⟩
def b1p(cs:Array Value):Obj→Obj
 | .cells _ t frozen=> .cells cs t frozen
 |o=>o
noncomputable def b1w (a:Os):World:=
 { World.holding prog a ⟨#[], #[],[]⟩with heap:=(((World.holding prog a ⟨#[], #[],[]⟩).heap.modify 0 (b1p (Lib.pow10Tab.map fun z=>Value.int .u64 z).toArray)).modify 1 (b1p #[.int .u8 0,.int .u8 1,.int .u8 28,.int .u8 2,.int .u8 29,.int .u8 14,.int .u8 24,.int .u8 3,.int .u8 30,.int .u8 22,.int .u8 20,.int .u8 15,.int .u8 25,.int .u8 17,.int .u8 4,.int .u8 8,.int .u8 31,.int .u8 27,.int .u8 13,.int .u8 23,.int .u8 21,.int .u8 19,.int .u8 16,.int .u8 7,.int .u8 26,.int .u8 12,.int .u8 18,.int .u8 6,.int .u8 11,.int .u8 5,.int .u8 10,.int .u8 9])).modify 2 (b1p #[.int .u8 0,.int .u8 1,.int .u8 56,.int .u8 2,.int .u8 57,.int .u8 49,.int .u8 28,.int .u8 3,.int .u8 61,.int .u8 58,.int .u8 42,.int .u8 50,.int .u8 38,.int .u8 29,.int .u8 17,.int .u8 4,.int .u8 62,.int .u8 47,.int .u8 59,.int .u8 36,.int .u8 45,.int .u8 43,.int .u8 51,.int .u8 22,.int .u8 53,.int .u8 39,.int .u8 33,.int .u8 30,.int .u8 24,.int .u8 18,.int .u8 12,.int .u8 5,.int .u8 63,.int .u8 55,.int .u8 48,.int .u8 27,.int .u8 60,.int .u8 41,.int .u8 37,.int .u8 16,.int .u8 46,.int .u8 35,.int .u8 44,.int .u8 21,.int .u8 52,.int .u8 32,.int .u8 23,.int .u8 11,.int .u8 54,.int .u8 26,.int .u8 40,.int .u8 15,.int .u8 34,.int .u8 20,.int .u8 31,.int .u8 10,.int .u8 25,.int .u8 14,.int .u8 19,.int .u8 9,.int .u8 13,.int .u8 8,.int .u8 7,.int .u8 6]) }
theorem c4s(a:Os):laidMet prog Rows.allUptoRow.laid ((b1w a).forCall (fun _ _=>0) ⟨#[], #[.slice none 0 0],[]⟩).memory:=
 laidMet_of_run' 8 (by kernel_rfl) (by kernel_rfl)
theorem c0E(b:Os){H:Type}(enc:TypeId×Value→H):∃a,DataW.whole enc prog ((b1w b).forCall (fun _ _=>0) ⟨#[], #[.slice none 0 0],[]⟩).memory f4.params.toList Rows.allSpec.vars false #[Value.slice none 0 0].toList 8=some ([.nil],[],a):=
 ⟨[],by kernel_rfl⟩
theorem b99(g:Os)(a:g.Started)(H:Type)(enc:TypeId×Value→H)(F:Stop.Interp):
  ReturnsInHanded {} Tryz.checked g 4 .any ((Rows.OpenSpec.upto Rows.allSpec).preRow enc prog f4 Rows.allUptoRow.domain false Rows.allUptoRow.laid) (((Rows.OpenSpec.upto Rows.allSpec).at F).post enc prog f4 false true false false):=by
 obtain⟨h,o⟩:=c0E g enc;refine returnsInHanded_of_row (C:=Tryz.checked) (s:=Rows.OpenSpec.upto Rows.allSpec) c5v a (by kernel_rfl) func4
  (witness_row_at (enc:=enc) (C:=Tryz.checked) false (b1w g) #[.slice none 0 0] rfl (by kernel_rfl) (by kernel_rfl) (by kernel_rfl)
   (OpenSpec.preRow_of_cond 8 o (by kernel_rfl) (fun k n=>by cases n;kernel_rfl) (by kernel_rfl) (c4s g))) ?_
 intro W e d i j b f m _ c _ l _ _;exact b6J H enc W e d i j b f m (c _ rfl) l
theorem c3D:Rows.AllUptoSaid:=
 OpenClaim.holds_of_cond 4 f4 rfl rfl rfl rfl rfl rfl rfl ⟨rfl,rfl,rfl,rfl,rfl⟩ rfl rfl rfl rfl rfl (by kernel_rfl) func4 (by kernel_rfl)
  (of_decide_eq_true (by kernel_rfl)) (by unfold Func.isWrapper;first|(rw[n_ (by decide+kernel)];kernel_rfl)|(rw[f_ (by decide+kernel)];exact⟨rfl,rfl⟩))
  (fun c a H b _ F=>by rw[OpenClaim.pre_eq_preRow];exact b99 c a H b F)
theorem c1n (f : FuncId) (b : Func) (d : Tryz.pinned.checked.prog.funcNamed "tariff/tarifflaw.All" = some f) (c : Tryz.pinned.checked.prog.funcs[f]? = some b) :
  false=Tryz.pinned.checked.prog.looks []∧∀(j:Nat) t,b.params[j]? =some t→Tryz.pinned.checked.prog.wantsStandIn t=false:=by
 obtain rfl : f = 4 := a_E ((show prog.funcNamed "tariff/tarifflaw.All" = some 4 by kernel_rfl).symm.trans d) |>.symm
 obtain rfl:b=f4:=(a_E (func4.symm.trans c)).symm;refine⟨by kernel_rfl,fun j t a=> ?_⟩;rw[params4]at a
 match j,a with
 |0,a=>obtain rfl:29=t:=a_E a;exact(show prog.wantsStandIn 29=false by kernel_rfl)
 |j+1,a=>simp at a
theorem all_card:Rows.AllUptoCardSaid:=
 Claim7.holds_tied_plain_at .later [] _ _ _ _ c3D (fun _ h=>by cases h) (by kernel_rfl) (fun _ h=>by cases h) allUpto_row_tie rfl ⟨rfl,rfl⟩ (by kernel_rfl) rfl c1n (by kernel_rfl)
#print axioms all_card
end Go.Proofs.YtdgmoiflahoihaaGreatDoor
