import Derived.Test.YtdgmoiflahoihaaGreatDoorALIw
import Derived.Test.YtdgmoiflahoihaaGreatDoorXPw

set_option linter.unusedSimpArgs false
set_option linter.unusedVariables false
set_option maxRecDepth 100000
set_option maxHeartbeats 8000000
namespace Go.Proofs.YtdgmoiflahoihaaGreatDoor
open Go.Proofs.Tryz
open Go.RowKit
theorem c5Y:(prog.info? 36).map (fun i=>(i.zero,i.size,i.bytes))=some (some (.slice none 0 0),1,24):=by kernel_rfl
theorem a2H.tookC{lo:Nat}{w e:World}{b:Nat}{y a LS:List Sl}{x:Sl}{o:Obj}{c v l u m:Value}(h:a2H lo w b m y a LS)(C:lo≤w.heap.size)(q:w.heap[b]? =some (.cells #[v,l,u,m] 38 (0,0)))(D:a5u w 87 a8l a.length x)
  (s:w.ownsRow lo 36 1 l a.length (a.map slV)) (k:e.ownsRow lo 36 1 c (a.length+1) (a.map slV++ [slV x])) (r:(w.alloc o).grownBy e l.ownBlock):
  a2H lo (e.setCell (a__ b 1) c) b m y (a++ [x]) LS∧Below lo w (e.setCell (a__ b 1) c)∧∀t,t≠36→t≠38→∀(g:Nat) (cs:Array Value) (f:Nat×Nat),w.heap[g]? =some (.cells cs t f)→(e.setCell (a__ b 1) c).heap[g]? =w.heap[g]? :=by
 have j:=a4J q s r (by decide);have d:∀t,t≠36→t≠38→∀(g:Nat) (cs:Array Value) (f:Nat×Nat),w.heap[g]? =some (.cells cs t f)→(e.setCell (a__ b 1) c).heap[g]? =w.heap[g]? :=fun t n p g cs f B=>b2T q s r n p g cs f B
 obtain⟨z,⟨J,H,I,i,F,G,E⟩,n,p,A⟩:=h;rw[q]at i;cases i;refine⟨⟨z,⟨v,c,u,a1p (L:= [v,l,u,m]) j 1 c,a2g F (d _ (by decide) (by decide)),?_,a2g E (d _ (by decide) (by decide))⟩,n.keep (d _ (by decide) (by decide)),(p.more D).keep (d _ (by decide) (by decide)),A.keep (d _ (by decide) (by decide))⟩,b4s z C s r,d⟩;rw[List.map_append,x_];exact b4t j k (by decide)
theorem c2g(n:Nat)(e:n≤2000):∃Z:List Value,Z.length=n*4∧∀w:World,(Instr.makeSlice 36 (i_ n) (i_ n)).run prog w= .ok (.slice (some (a__ w.heap.size 0)) n n) (w.alloc (.cells Z.toArray 87)):=by
 obtain⟨i,b,d,c,a⟩:=a4k b4v;refine⟨(madeCells #[i_ 0,i_ 0,i_ 0,i_ 0] (n*4)).toList,by simp[size_madeCells],fun w=> ?_⟩;have k:=run_make (P:=prog) w 36 87 i _ underlying36 b d .i64 .i64 (n:Int) (n:Int) (by omega) (by omega) (by rw[a];omega) (by omega);rw[c,W_]at k;rw[k];rfl
theorem a2H.setLast{lo b:Nat}{w:World}{n u:Value}{d c LS:List Sl}(h:a2H lo w b n d c LS):a2H lo (w.setCell (a__ b 3) u) b u d c LS:=by
 obtain⟨o,⟨m,k,l,j,z,x,y⟩,p,q,r⟩:=h;have a:∀t,t≠38→∀(g:Nat) (f:Array Value) (i:Nat×Nat),w.heap[g]? =some (.cells f t i)→(w.setCell (a__ b 3) u).heap[g]? =w.heap[g]? :=fun t v g f i s=>o_ _ _ _ _ fun e=>v (by subst e;exact a73 s j)
 exact⟨o,⟨m,k,l,a1p (L:= [m,k,l,n]) j 3 u,a2g z (a _ (by decide)),a2g x (a _ (by decide)),a2g y (a _ (by decide))⟩,p.keep (a _ (by decide)),q.keep (a _ (by decide)),r.keep (a _ (by decide))⟩
theorem c0c{b j:Nat}{w w':World}{u:Value}{cs:List Value}{t:TypeId}(h:B__ w w')(a:w.heap[b]? =some (.cells cs.toArray t (0,0))):Below (w.setCell (a__ b j) u).heap.size (w.setCell (a__ b j) u) (w'.setCell (a__ b j) u):=by
 have f:Below 0 w (w.setCell (a__ b j) u):=(g_ 0 w).setCell (a_j _) u;have g:Below 0 w' (w'.setCell (a__ b j) u):=(g_ 0 w').setCell (a_j _) u;have d:∀x:World,(x.setCell (a__ b j) u).heap.size=x.heap.size:=fun x=>by simp
 have i:=(z_.mp a).1;refine⟨g.os.trans (h.os.trans f.os.symm),g.tape.trans (h.tape.trans f.tape.symm),g.output.trans (h.output.trans f.output.symm),by rw[d,d];exact h.size,fun k c=> ?_⟩;rw[d]at c;by_cases e:k=b
 ·subst e;rw[a1p a j u,a1p ((h.block k c).trans a) j u]
 ·rw[o_ _ _ _ _ e,o_ _ _ _ _ e,h.block k c]
theorem b8l(lo b:Nat)(vl:Value)(NS m LS:List Sl)(l w':World)(v:Value)(N:List Ic)(h':a2H lo l b vl NS m LS)(Aw:B__ l w')(Am:w'.ownsRow l.heap.size 87 4 v N.length (a0Q N))(Y:lo≤l.heap.size)(hn:m.length≤2000000)(hN:N.length≤2000):
  Calls prog 34 #[.pointer (some (a__ b 0)),v] w' fun e w2=>e= .returned (.tuple #[])∧(∃x u,a2H lo w2 b u NS (m++ [x]) LS∧a6u w2 u N)∧Below lo l w2:=by
 obtain⟨Z,hZ,AO⟩:=c2g N.length hN;have D:=a3W N;obtain⟨vN,vC,vL,Ad,_⟩:=h'.here;have R:=(z_.mp Ad).1;obtain⟨ao,gg,p,rfl,AC⟩:=b2U Am;have Ag:B__ w' (w'.alloc (.cells Z.toArray 87)):=(g_ _ _).alloc (a_ _) _;have HC:Hid (0<N.length→∃ad,ao=some ad∧∀j v,(a0Q N)[j]? =some v→(w'.alloc (.cells Z.toArray 87)).cell? (ad.add j)=some v):=c51 (AC.below Ag);have As:Hid _:=b5u N;have Ar:Hid (N.length=0→a0Q N= []):=fun h=>a_o (by omega)
 have HH:Hid ((w'.alloc (.cells Z.toArray 87)).heap[w'.heap.size]? =some (.cells Z.toArray 87 (0,0))):=R_ w' _;have Ao:Hid (B__ w' (w'.alloc (.cells Z.toArray 87))):=Ag;have B:Hid (a2H lo l b vl NS m LS):=h';have T:Hid (B__ l w'):=Aw;have Au:Hid (w'.ownsRow l.heap.size 87 4 (.slice ao N.length p) N.length (a0Q N)):=Am;have Aa:Hid (l.heap[b]? =some (.cells #[vN,vC,vL,vl] 38 (0,0))):=Ad;clear h' Aw Am Ad AC Ag;go_enter func34,ntmps34;go_upto_region 1 with fail;generalize AK:w'.alloc (.cells Z.toArray 87)=WA at*;obtain⟨WC,AL,Af,Ae⟩:=b0j (P:=prog) WA 36 36 3 87 4 underlying36 b7g ao w'.heap.size N.length N.length N.length p Z 87 HH.out (a0Q N) (a_ _) D Ar.out HC.out (by omega) As.out w'.heap.size w' Ao.out (a_ _);rw[D,List.drop_eq_nil_of_le (by omega),a_i]at Af;have Ah:B__ l WC:=T.out.trans (Ae.mono T.out.size);have Ai:=(Ah.block b R).trans Aa.out;have c3:WC.cell? (a__ b 3)=some vl:=F_ _ _ _ _ _ _ Ai;have f3:WC.frozen? (a__ b 3)=false:=by simp[World.frozen?,Ai]
 have HI:Hid (a2H lo (l.setCell (a__ b 3) (.slice (some (a__ w'.heap.size 0)) N.length N.length)) b (.slice (some (a__ w'.heap.size 0)) N.length N.length) NS m LS):=B.out.setLast;have HB:Hid (Below (l.setCell (a__ b 3) (.slice (some (a__ w'.heap.size 0)) N.length N.length)).heap.size (l.setCell (a__ b 3) (.slice (some (a__ w'.heap.size 0)) N.length N.length)) (WC.setCell (a__ b 3) (.slice (some (a__ w'.heap.size 0)) N.length N.length))):=c0c (cs:= [vN,vC,vL,vl]) Ah Aa.out;have hz:(l.setCell (a__ b 3) (.slice (some (a__ w'.heap.size 0)) N.length N.length)).heap.size=l.heap.size:=by simp
 have AB:lo≤(l.setCell (a__ b 3) (.slice (some (a__ w'.heap.size 0)) N.length N.length)).heap.size:=by rw[hz];exact Y
 have Aq:Hid (Below lo l (l.setCell (a__ b 3) (.slice (some (a__ w'.heap.size 0)) N.length N.length))):=(g_ lo l).setCell B.out.low _;have AQ:=T.out.size;have U:Hid ((WC.setCell (a__ b 3) (.slice (some (a__ w'.heap.size 0)) N.length N.length)).heap[w'.heap.size]? =some (.cells (a0Q N).toArray 87 (0,0))):=(o_ _ _ _ _ (by simp only;omega)).trans Af;have AP:(ao=none∧N= []∧p=0)∨∃g H,ao=some (a__ g 0)∧(l.setCell (a__ b 3) (.slice (some (a__ w'.heap.size 0)) N.length N.length)).heap.size≤g∧(WC.setCell (a__ b 3) (.slice (some (a__ w'.heap.size 0)) N.length N.length)).heap[g]? =some (.cells H 87 (0,0))∧N.length≤p∧p≤maxLen∧H.size=p*4∧w'.heap.size≠g:=by
  rcases Au.out.2 with⟨e1,e2⟩|⟨g,AR,H,e,h0,hg,AD,Aj,D,_⟩
  ·simp only[a_L]at e1;exact .inl ⟨e1.1,a_o e2,e1.2.2⟩
  ·simp only[a_L,true_and]at e;obtain⟨rfl,rfl⟩:=e;have AM:=(z_.mp hg).1;refine .inr ⟨g,H,rfl,by rw[hz];exact h0,?_,AD,Aj,D,by omega⟩;rw[o_ _ _ _ _ (by simp only;omega),Ae.block g AM];exact hg
 go_upto_region 3 with fail;generalize WC.setCell (a__ b 3) (.slice (some (a__ w'.heap.size 0)) N.length N.length)=w at*;generalize l.setCell (a__ b 3) (.slice (some (a__ w'.heap.size 0)) N.length N.length)=w0 at*;generalize w'.heap.size=I at*;clear AO AL Af Ae Ah Ai c3 f3 hz AQ HC As Ar HH Ao B T Au Aa AK Y R;obtain⟨iV,AA,AG,AF,Ax⟩:=a4k c5Y;obtain⟨vN,vC,vL,hB,_,oX,_⟩:=HI.out.here;have X:=(z_.mp hB).1;have Ap:Hid (w0.heap[b]? =some (.cells #[vN,vC,vL,.slice (some (a__ I 0)) N.length N.length] 38 (0,0))):=hB;have At:Hid (w0.ownsRow lo 36 1 vC m.length (m.map slV)):=oX;obtain⟨M,O,rfl⟩:∃M O,vC= .slice M m.length O:=b4I oX;have m1:m.length+1≤maxLen:=by unfold maxLen;omega
 have m2:(m.length+1)*24≤140737488355328:=by omega
 clear oX hB;rcases AP with⟨rfl,rfl,rfl⟩|⟨g,H,rfl,S,hg,AD,Aj,D,Az⟩
 ·go_wp2_with fail;go_loopw [6] (fun x w'=>x=i_ 0∧Hid (B__ w0 w')∧Hid (∀k:Nat,w'.heap[k]? =w.heap[k]?)) (fun _ _=>0);case atStart=>exact⟨rfl,HB.out,fun _=>rfl⟩
  case round=>
   obtain⟨rfl,L,G⟩:=hrel;generalize wr=W at*;have Ac:Hid (a5u W 87 a8l m.length (none,0)):= .inl ⟨rfl,rfl⟩;have V:Hid (a2H lo W b (.slice (some (a__ I 0)) ([]:List Ic).length ([]:List Ic).length) NS m LS):=HI.out.keep L.out;have z:Hid (W.ownsRow lo 36 1 (.slice M m.length O) m.length (m.map slV)):=a2g At.out fun g cs fr hh=>L.out.block g (z_.mp hh).1
   have y:Hid (W.heap[b]? =some (.cells #[vN,.slice M m.length O,vL,.slice (some (a__ I 0)) ([]:List Ic).length ([]:List Ic).length] 38 (0,0))):=(L.out.block b X).trans Ap.out;have An:lo≤W.heap.size:=by have:=L.out.size;omega
   have m3:∀ob,lo≤(W.alloc ob).heap.size:=fun ob=>by simp;omega
   have c0:W.cell? (a__ b 1)=some (.slice M m.length O):=F_ _ _ _ _ _ _ y.out;have fz:W.frozen? (a__ b 1)=false:=by simp[World.frozen?,y.out]
   go_wp2_with (at_builtin;refine a0X rfl (.tmp 41) (.tmp 43) 34 rfl lo 36 iV (.slice none 0 0) 1 24 underlying34 AA AG AF Ax rfl (by decide) (.slice M m.length O) m.length (m.map slV) (by rfl) (by exact z.out.alloc _) (a__ W.heap.size 0) 1 1 [slV (none,0)] (by rfl) rfl (by exact a98 W (none,0) _) (by intro u hu;simp at hu;subst hu;rfl) m1 m2 (m3 _) (by decide) ?_;intro v' w3 t s Al;obtain⟨gn,Av,rfl⟩:=Joins.ownsRow_form t (by omega);have HT:Hid _:=V.out.tookC An y.out Ac.out z.out t s;have C:=a4J y.out z.out s (by decide);have q0:w3.cell? (a__ b 1)=some (.slice M m.length O):=F_ _ _ _ _ _ _ C;have AJ:w3.frozen? (a__ b 1)=false:=(by simp[World.frozen?,C]);clear t s Al C);go_end0;exact⟨rfl,⟨_,_,HT.out.1,.inr ⟨I,rfl,(HT.out.2.2 _ (by decide) (by decide) I _ _ ((G.out I).trans U.out)).trans ((G.out I).trans U.out)⟩⟩,Aq.out.trans ((L.out.mono AB).trans HT.out.2.1)⟩
 ·have AT:=(z_.mp hg).1;have AH:Hid (a9Q w 87 (a8l (-1-(m.length:Int))) g p 0):=⟨H.toList,by simp[D,a8l],by simpa[a32]using hg⟩
  clear hg D;have Ay:p≤9223372036854775807:=by unfold maxLen at Aj;omega
  go_wp2_with fail;go_loopw [6] (fun x w'=>∃i:Nat,x=i_ i∧i≤p∧Hid (B__ w0 w')∧Hid (a9Q w' 87 (a8l (-1-(m.length:Int))) g p i)∧Hid (∀k:Nat,k≠g→w'.heap[k]? =w.heap[k]?)) (fun x _=>p-(intOf x).toNat);case atStart=>exact⟨0,rfl,by omega,HB.out,AH.out,fun _ _=>rfl⟩
  case round=>
   obtain⟨i,rfl,hi,L,Ab,G⟩:=hrel;generalize wr=W at*;have V:Hid (a2H lo W b (.slice (some (a__ I 0)) N.length N.length) NS m LS):=HI.out.keep L.out;have z:Hid (W.ownsRow lo 36 1 (.slice M m.length O) m.length (m.map slV)):=a2g At.out fun g cs fr hh=>L.out.block g (z_.mp hh).1
   have y:Hid (W.heap[b]? =some (.cells #[vN,.slice M m.length O,vL,.slice (some (a__ I 0)) N.length N.length] 38 (0,0))):=(L.out.block b X).trans Ap.out;have An:lo≤W.heap.size:=by have:=L.out.size;omega
   have m3:∀ob,lo≤(W.alloc ob).heap.size:=fun ob=>by simp;omega
   have c0:W.cell? (a__ b 1)=some (.slice M m.length O):=F_ _ _ _ _ _ _ y.out;have fz:W.frozen? (a__ b 1)=false:=by simp[World.frozen?,y.out]
   by_cases AV:i<p
   ·have ti:decide ((i:Int)<(p:Int))=true:=by simp;omega
    obtain⟨F,J,E⟩:=Ab.out;have AN:4≤F.length:=by
     rw[J];have:1*4≤(p-i)*4:=a_H _ (by omega);simpa[a8l]using this
    obtain⟨u0,u1,u2,u3,r,rfl⟩:∃u0 u1 u2 u3 r,F=u0::u1::u2::u3::r:=by
     match F,AN with
     |u0::u1::u2::u3::r,_=>exact⟨u0,u1,u2,u3,r,rfl⟩
    have Ak:=a74 (a8l (-1-(m.length:Int))) i;have AE:(a8l (-1-(m.length:Int))).length=4:=rfl;rw[AE]at Ak J;have q:∀k u,([u0,u1,u2,u3]:List Value)[k]? =some u→W.cell? (a__ g (i*4+k))=some u:=fun k u A=>by
     rw[F_ _ _ _ _ _ _ E,←Ak];simp only[a_h,V_ (Nat.le_add_right _ _),a_I]
     match k,A with
     |0,A=>exact A
     |1,A=>exact A
     |2,A=>exact A
     |3,A=>exact A
     |k+4,A=>simp at A
    have q0:=q 0 u0 rfl;have q1:=q 1 u1 rfl;have q2:=q 2 u2 rfl;have q3:=q 3 u3 rfl;rw[a_P]at q0;have AU:∀o,W.frozen? (a__ g o)=false:=fun o=>by simp[World.frozen?,E]
    have AI:=h__ E;have AS:w0.heap.size≤g:=S;clear q E Ab V z y;go_wp2_with fail;go_roundw;case rel=>
     refine⟨i+1,by go_num,by omega,((((L.out.setCell S _).setCell S _).setCell S _).setCell S _),⟨r,?_,?_⟩,fun k A=> ?_⟩
     ·simp only[B_]at J;rw[AE];have e:(p-i)*4=(p-(i+1))*4+4:=by rw[←b_d];congr 1;omega
      omega
     ·have k:=(a1p (a1p (a1p (a1p AI.out (i*4) (i_ (-1-(m.length:Int)))) (i*4+1) (i_ 0)) (i*4+2) (i_ 0)) (i*4+3) (i_ 0))
      have e:(((((a32 (a8l (-1-(m.length:Int))) i++u0::u1::u2::u3::r).set (i*4) (i_ (-1-(m.length:Int)))).set (i*4+1) (i_ 0)).set (i*4+2) (i_ 0)).set (i*4+3) (i_ 0))=a32 (a8l (-1-(m.length:Int))) (i+1)++r:=by
       rw[←Ak];simp only[b25,a35,l_,j_];rw[a32,a_y];rfl
      rw[e]at k;exact k
     ·rw[o_ _ _ _ _ A,o_ _ _ _ _ A,o_ _ _ _ _ A,o_ _ _ _ _ A];exact G.out k A
    case measure=>simp[intOf];omega
   ·have ti:decide ((i:Int)<(p:Int))=false:=by simp;omega
    obtain rfl:i=p:=by omega
    have Ac:Hid (a5u W 87 a8l m.length (some g,i)):=by
     obtain⟨F,J,E⟩:=Ab.out;rw[b_c,Nat.zero_mul]at J;rw[a_o J,a_i]at E;exact .inr ⟨g,rfl,Ay,E⟩
    go_wp2_with (at_builtin;refine a0X rfl (.tmp 41) (.tmp 43) 34 rfl lo 36 iV (.slice none 0 0) 1 24 underlying34 AA AG AF Ax rfl (by decide) (.slice M m.length O) m.length (m.map slV) (by rfl) (by exact z.out.alloc _) (a__ W.heap.size 0) 1 1 [slV (some g,i)] (by rfl) rfl (by exact a98 W (some g,i) _) (by intro u hu;simp at hu;subst hu;rfl) m1 m2 (m3 _) (by decide) ?_;intro v' w3 t s Al;obtain⟨gn,Av,rfl⟩:=Joins.ownsRow_form t (by omega);have HT:Hid _:=V.out.tookC An y.out Ac.out z.out t s;have C:=a4J y.out z.out s (by decide);have q0:w3.cell? (a__ b 1)=some (.slice M m.length O):=F_ _ _ _ _ _ _ C;have AJ:w3.frozen? (a__ b 1)=false:=(by simp[World.frozen?,C]);clear t s Al C);go_end0;exact⟨rfl,⟨_,_,HT.out.1,.inr ⟨I,rfl,(HT.out.2.2 _ (by decide) (by decide) I _ _ ((G.out I Az).trans U.out)).trans ((G.out I Az).trans U.out)⟩⟩,Aq.out.trans ((L.out.mono AB).trans HT.out.2.1)⟩
end Go.Proofs.YtdgmoiflahoihaaGreatDoor
