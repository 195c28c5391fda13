import Derived.Test.YtdgmoiflahoihaaGreatDoorALIw
import Derived.Test.YtdgmoiflahoihaaGreatDoorCReadw
import Derived.Test.YtdgmoiflahoihaaGreatDoorROpenw

set_option linter.unusedSimpArgs false
set_option linter.unusedVariables false
set_option maxRecDepth 100000
set_option maxHeartbeats 8000000
namespace Go.Proofs.YtdgmoiflahoihaaGreatDoor
open Go.Proofs.Tryz
open Go.RowKit
theorem c50:(prog.info? 51).map (fun i=>(i.zero,i.size,i.bytes))=some (some (.slice none 0 0),1,24):=by kernel_rfl
theorem a2H.tookN{lo:Nat}{w e:World}{b:Nat}{a y LS:List Sl}{x:Sl}{o:Obj}{c l u v m:Value}(h:a2H lo w b m a y LS)(C:lo≤w.heap.size)(q:w.heap[b]? =some (.cells #[l,u,v,m] 38 (0,0)))(D:a5u w 61 a8n a.length x)
  (s:w.ownsRow lo 51 1 l a.length (a.map slV)) (k:e.ownsRow lo 51 1 c (a.length+1) (a.map slV++ [slV x])) (r:(w.alloc o).grownBy e l.ownBlock):
  a2H lo (e.setCell (a__ b 0) c) b m (a++ [x]) y LS∧Below lo w (e.setCell (a__ b 0) c)∧∀t,t≠51→t≠38→∀(g:Nat) (cs:Array Value) (f:Nat×Nat),w.heap[g]? =some (.cells cs t f)→(e.setCell (a__ b 0) c).heap[g]? =w.heap[g]? :=by
 have j:=a4J q s r (by decide);have d:∀t,t≠51→t≠38→∀(g:Nat) (cs:Array Value) (f:Nat×Nat),w.heap[g]? =some (.cells cs t f)→(e.setCell (a__ b 0) c).heap[g]? =w.heap[g]? :=fun t n p g cs f B=>b2T q s r n p g cs f B
 obtain⟨z,⟨J,H,I,i,G,E,F⟩,n,p,A⟩:=h;rw[q]at i;cases i;refine⟨⟨z,⟨c,u,v,a1p (L:= [l,u,v,m]) j 0 c,?_,a2g E (d _ (by decide) (by decide)),a2g F (d _ (by decide) (by decide))⟩,(n.more D).keep (d _ (by decide) (by decide)),p.keep (d _ (by decide) (by decide)),A.keep (d _ (by decide) (by decide))⟩,b4s z C s r,d⟩;rw[List.map_append,x_];exact b4t j k (by decide)
theorem a8q(lo b:Nat)(N:Value)(j V LS:List Sl)(J w:World)(v:Value)(n:Nat)(xs:List Value)(h:a2H lo J b N j V LS)(hb:B__ J w)(ho:w.ownsRow J.heap.size 61 5 v n xs)(Ae:lo≤J.heap.size)(hn:j.length≤2000000):
  Calls prog 30 #[.pointer (some (a__ b 0)),v] w fun e w'=>e= .returned (.tuple #[])∧(∃x,a2H lo w' b N (j++ [x]) V LS)∧Below lo J w'∧b6H v 51 w w':=by
 have HI:Hid (a2H lo J b N j V LS):=h;obtain⟨iV,Ad,Ah,Ag,Aa⟩:=a4k c50;obtain⟨vN,vC,vL,hB,oX,_⟩:=h.here;have M:=(z_.mp hB).1;have X:Hid (J.heap[b]? =some (.cells #[vN,vC,vL,N] 38 (0,0))):=hB;have Y:Hid (J.ownsRow lo 51 1 vN j.length (j.map slV)):=oX;obtain⟨H,I,rfl⟩:∃H I,vN= .slice H j.length I:=b4I oX;have m1:j.length+1≤maxLen:=by unfold maxLen;omega
 have m2:(j.length+1)*24≤140737488355328:=by omega
 clear h oX hB;have HB:Hid (B__ J w):=hb;rcases ho.2 with⟨rfl,rfl⟩|⟨g,m,Ak,rfl,E,hg,As,Am,Ac,_⟩
 ·clear hb ho;go_enter func30,ntmps30;go_wp2_with fail;go_loopw [5] (fun x w'=>x=i_ 0∧Hid (B__ J w')∧Hid (∀k:Nat,w'.heap[k]? =w.heap[k]?)) (fun _ _=>0);case atStart=>exact⟨rfl,HB.out,fun _=>rfl⟩
  case round=>
   obtain⟨rfl,G,D⟩:=hrel;generalize wr=W at*;have R:Hid (a5u W 61 a8n j.length (none,0)):= .inl ⟨rfl,rfl⟩;have L:Hid (a2H lo W b N j V LS):=HI.out.keep G.out;have z:Hid (W.ownsRow lo 51 1 (.slice H j.length I) j.length (j.map slV)):=a2g Y.out fun g cs fr hh=>G.out.block g (z_.mp hh).1
   have y:Hid (W.heap[b]? =some (.cells #[.slice H j.length I,vC,vL,N] 38 (0,0))):=(G.out.block b M).trans X.out;have U:lo≤W.heap.size:=by have:=G.out.size;omega
   have m3:∀ob,lo≤(W.alloc ob).heap.size:=fun ob=>by simp;omega
   have c0:W.cell? (a__ b 0)=some (.slice H j.length I):=F_ _ _ _ _ _ _ y.out;have fz:W.frozen? (a__ b 0)=false:=by simp[World.frozen?,y.out]
   go_wp2_with (at_builtin;refine a0X rfl (.tmp 30) (.tmp 32) 33 rfl lo 51 iV (.slice none 0 0) 1 24 underlying33 Ad Ah Ag Aa rfl (by decide) (.slice H j.length I) j.length (j.map slV) (by rfl) (by exact z.out.alloc _) (a__ W.heap.size 0) 1 1 [slV (none,0)] (by rfl) rfl (by exact a98 W (none,0) _) (by intro u hu;simp at hu;subst hu;rfl) m1 m2 (m3 _) (by decide) ?_;intro v' w3 s l T;obtain⟨gn,Z,rfl⟩:=Joins.ownsRow_form s (by omega);have P:Hid _:=L.out.tookN U y.out R.out z.out s l;have A:=a4J y.out z.out l (by decide);have q0:w3.cell? (a__ b 0)=some (.slice H j.length I):=F_ _ _ _ _ _ _ A;have Al:w3.frozen? (a__ b 0)=false:=(by simp[World.frozen?,A]);clear s l T A);go_end0;exact⟨rfl,⟨_,P.out.1⟩,(G.out.mono Ae).trans P.out.2.1,fun k t cs fr p h1 h2 h3=>(P.out.2.2 t h2 h3 k cs fr ((D.out k).trans p)).trans (D.out k)⟩
 ·have Ap:=(z_.mp hg).1;have Ai:Hid (a9Q w 61 (a8n (-1-(j.length:Int))) g m 0):=⟨Ak.toList,by simp[Ac,a8n],by simpa[a32]using hg⟩
  clear hb ho hg Ac;have Ab:m≤9223372036854775807:=by unfold maxLen at Am;omega
  go_enter func30,ntmps30;go_wp2_with fail;go_loopw [5] (fun x w'=>∃i:Nat,x=i_ i∧i≤m∧Hid (B__ J w')∧Hid (a9Q w' 61 (a8n (-1-(j.length:Int))) g m i)∧Hid (∀k:Nat,k≠g→w'.heap[k]? =w.heap[k]?)) (fun x _=>m-(intOf x).toNat);case atStart=>exact⟨0,rfl,by omega,HB.out,Ai.out,fun _ _=>rfl⟩
  case round=>
   obtain⟨i,rfl,hi,G,O,D⟩:=hrel;generalize wr=W at*;have L:Hid (a2H lo W b N j V LS):=HI.out.keep G.out;have z:Hid (W.ownsRow lo 51 1 (.slice H j.length I) j.length (j.map slV)):=a2g Y.out fun g cs fr hh=>G.out.block g (z_.mp hh).1
   have y:Hid (W.heap[b]? =some (.cells #[.slice H j.length I,vC,vL,N] 38 (0,0))):=(G.out.block b M).trans X.out;have U:lo≤W.heap.size:=by have:=G.out.size;omega
   have m3:∀ob,lo≤(W.alloc ob).heap.size:=fun ob=>by simp;omega
   have c0:W.cell? (a__ b 0)=some (.slice H j.length I):=F_ _ _ _ _ _ _ y.out;have fz:W.frozen? (a__ b 0)=false:=by simp[World.frozen?,y.out]
   by_cases Ar:i<m
   ·have ti:decide ((i:Int)<(m:Int))=true:=by simp;omega
    obtain⟨C,F,B⟩:=O.out;have An:5≤C.length:=by
     rw[F];have:1*5≤(m-i)*5:=a_H _ (by omega);simpa[a8n]using this
    obtain⟨u0,u1,u2,u3,u4,r,rfl⟩:∃u0 u1 u2 u3 u4 r,C=u0::u1::u2::u3::u4::r:=by
     match C,An with
     |u0::u1::u2::u3::u4::r,_=>exact⟨u0,u1,u2,u3,u4,r,rfl⟩
    have S:=a74 (a8n (-1-(j.length:Int))) i;have Af:(a8n (-1-(j.length:Int))).length=5:=rfl;rw[Af]at S F;have q:∀k u,([u0,u1,u2,u3,u4]:List Value)[k]? =some u→W.cell? (a__ g (i*5+k))=some u:=fun k u p=>by
     rw[F_ _ _ _ _ _ _ B,←S];simp only[a_h,V_ (Nat.le_add_right _ _),a_I]
     match k,p with
     |0,p=>exact p
     |1,p=>exact p
     |2,p=>exact p
     |3,p=>exact p
     |4,p=>exact p
     |k+5,p=>simp at p
    have q0:=q 0 u0 rfl;have q1:=q 1 u1 rfl;have q2:=q 2 u2 rfl;have q3:=q 3 u3 rfl;have q4:=q 4 u4 rfl;rw[a_P]at q0;have Aq:∀o,W.frozen? (a__ g o)=false:=fun o=>by simp[World.frozen?,B]
    have Aj:=h__ B;have Ao:J.heap.size≤g:=E;clear q B O L z y;go_wp2_with fail;go_roundw;case rel=>
     refine⟨i+1,by go_num,by omega,(((((G.out.setCell E _).setCell E _).setCell E _).setCell E _).setCell E _),⟨r,?_,?_⟩,fun k p=> ?_⟩
     ·simp only[B_]at F;rw[Af];have e:(m-i)*5=(m-(i+1))*5+5:=by rw[←b_d];congr 1;omega
      omega
     ·have k:=(a1p (a1p (a1p (a1p (a1p Aj.out (i*5) (i_ 0)) (i*5+1) (i_ (-1-(j.length:Int)))) (i*5+2) (i_ 0)) (i*5+3) (i_ 0)) (i*5+4) (i_ 0))
      have e:((((((a32 (a8n (-1-(j.length:Int))) i++u0::u1::u2::u3::u4::r).set (i*5) (i_ 0)).set (i*5+1) (i_ (-1-(j.length:Int)))).set (i*5+2) (i_ 0)).set (i*5+3) (i_ 0)).set (i*5+4) (i_ 0))=a32 (a8n (-1-(j.length:Int))) (i+1)++r:=by
       rw[←S];simp only[b25,a35,l_,j_];rw[a32,a_y];rfl
      rw[e]at k;exact k
     ·rw[o_ _ _ _ _ p,o_ _ _ _ _ p,o_ _ _ _ _ p,o_ _ _ _ _ p,o_ _ _ _ _ p];exact D.out k p
    case measure=>simp[intOf];omega
   ·have ti:decide ((i:Int)<(m:Int))=false:=by simp;omega
    obtain rfl:i=m:=by omega
    have R:Hid (a5u W 61 a8n j.length (some g,i)):=by
     obtain⟨C,F,B⟩:=O.out;rw[b_c,Nat.zero_mul]at F;rw[a_o F,a_i]at B;exact .inr ⟨g,rfl,Ab,B⟩
    go_wp2_with (at_builtin;refine a0X rfl (.tmp 30) (.tmp 32) 33 rfl lo 51 iV (.slice none 0 0) 1 24 underlying33 Ad Ah Ag Aa rfl (by decide) (.slice H j.length I) j.length (j.map slV) (by rfl) (by exact z.out.alloc _) (a__ W.heap.size 0) 1 1 [slV (some g,i)] (by rfl) rfl (by exact a98 W (some g,i) _) (by intro u hu;simp at hu;subst hu;rfl) m1 m2 (m3 _) (by decide) ?_;intro v' w3 s l T;obtain⟨gn,Z,rfl⟩:=Joins.ownsRow_form s (by omega);have P:Hid _:=L.out.tookN U y.out R.out z.out s l;have A:=a4J y.out z.out l (by decide);have q0:w3.cell? (a__ b 0)=some (.slice H j.length I):=F_ _ _ _ _ _ _ A;have Al:w3.frozen? (a__ b 0)=false:=(by simp[World.frozen?,A]);clear s l T A);go_end0;exact⟨rfl,⟨_,P.out.1⟩,(G.out.mono Ae).trans P.out.2.1,fun k t cs fr p h1 h2 h3=>(P.out.2.2 t h2 h3 k cs fr ((D.out k (fun e=>h1 (by rw[e];rfl))).trans p)).trans (D.out k (fun e=>h1 (by rw[e];rfl)))⟩
theorem c5Z:(prog.info? 82).map (fun i=>(i.zero,i.size,i.bytes))=some (some (.slice none 0 0),1,24):=by kernel_rfl
theorem a2H.tookL{lo:Nat}{w d:World}{b:Nat}{y v LS:List Sl}{x:Sl}{o:Obj}{a u s k l:Value}(h:a2H lo w b l y v LS)(C:lo≤w.heap.size)(p:w.heap[b]? =some (.cells #[u,s,k,l] 38 (0,0)))(D:a5u w 89 a8m LS.length x)
  (r:w.ownsRow lo 82 1 k LS.length (LS.map slV)) (j:d.ownsRow lo 82 1 a (LS.length+1) (LS.map slV++ [slV x])) (q:(w.alloc o).grownBy d k.ownBlock):
  a2H lo (d.setCell (a__ b 2) a) b l y v (LS++ [x])∧Below lo w (d.setCell (a__ b 2) a)∧∀t,t≠82→t≠38→∀(g:Nat) (cs:Array Value) (e:Nat×Nat),w.heap[g]? =some (.cells cs t e)→(d.setCell (a__ b 2) a).heap[g]? =w.heap[g]? :=by
 have i:=a4J p r q (by decide);have c:∀t,t≠82→t≠38→∀(g:Nat) (cs:Array Value) (e:Nat×Nat),w.heap[g]? =some (.cells cs t e)→(d.setCell (a__ b 2) a).heap[g]? =w.heap[g]? :=fun t m n g cs e B=>b2T p r q m n g cs e B
 obtain⟨z,⟨J,H,I,f,F,E,G⟩,m,n,A⟩:=h;rw[p]at f;cases f;refine⟨⟨z,⟨u,s,a,a1p (L:= [u,s,k,l]) i 2 a,a2g F (c _ (by decide) (by decide)),a2g E (c _ (by decide) (by decide)),?_⟩,m.keep (c _ (by decide) (by decide)),n.keep (c _ (by decide) (by decide)),(A.more D).keep (c _ (by decide) (by decide))⟩,b4s z C r q,c⟩;rw[List.map_append,x_];exact b4t i j (by decide)
theorem b6w(lo b:Nat)(M:Value)(Y U LS:List Sl)(H w:World)(v:Value)(n:Nat)(xs:List Value)(h:a2H lo H b M Y U LS)(hb:B__ H w)(ho:w.ownsRow H.heap.size 89 3 v n xs)(Ae:lo≤H.heap.size)(hn:LS.length≤2000000):
  Calls prog 36 #[.pointer (some (a__ b 0)),v] w fun e w'=>e= .returned (.tuple #[])∧(∃x,a2H lo w' b M Y U (LS++ [x]))∧Below lo H w'∧b6H v 82 w w':=by
 have HI:Hid (a2H lo H b M Y U LS):=h;obtain⟨iV,Ad,Ah,Ag,Aa⟩:=a4k c5Z;obtain⟨vN,vC,vL,hB,_,_,oX⟩:=h.here;have L:=(z_.mp hB).1;have V:Hid (H.heap[b]? =some (.cells #[vN,vC,vL,M] 38 (0,0))):=hB;have X:Hid (H.ownsRow lo 82 1 vL LS.length (LS.map slV)):=oX;obtain⟨F,G,rfl⟩:∃F G,vL= .slice F LS.length G:=b4I oX;have m1:LS.length+1≤maxLen:=by unfold maxLen;omega
 have m2:(LS.length+1)*24≤140737488355328:=by omega
 clear h oX hB;have HB:Hid (B__ H w):=hb;rcases ho.2 with⟨rfl,rfl⟩|⟨g,l,Ak,rfl,J,hg,As,Am,Ac,_⟩
 ·clear hb ho;go_enter func36,ntmps36;go_wp2_with fail;go_loopw [5] (fun x w'=>x=i_ 0∧Hid (B__ H w')∧Hid (∀k:Nat,w'.heap[k]? =w.heap[k]?)) (fun _ _=>0);case atStart=>exact⟨rfl,HB.out,fun _=>rfl⟩
  case round=>
   obtain⟨rfl,E,C⟩:=hrel;generalize wr=W at*;have P:Hid (a5u W 89 a8m LS.length (none,0)):= .inl ⟨rfl,rfl⟩;have I:Hid (a2H lo W b M Y U LS):=HI.out.keep E.out;have y:Hid (W.ownsRow lo 82 1 (.slice F LS.length G) LS.length (LS.map slV)):=a2g X.out fun g cs fr hh=>E.out.block g (z_.mp hh).1
   have p:Hid (W.heap[b]? =some (.cells #[vN,vC,.slice F LS.length G,M] 38 (0,0))):=(E.out.block b L).trans V.out;have T:lo≤W.heap.size:=by have:=E.out.size;omega
   have m3:∀ob,lo≤(W.alloc ob).heap.size:=fun ob=>by simp;omega
   have c0:W.cell? (a__ b 2)=some (.slice F LS.length G):=F_ _ _ _ _ _ _ p.out;have fz:W.frozen? (a__ b 2)=false:=by simp[World.frozen?,p.out]
   go_wp2_with (at_builtin;refine a0X rfl (.tmp 30) (.tmp 32) 35 rfl lo 82 iV (.slice none 0 0) 1 24 underlying35 Ad Ah Ag Aa rfl (by decide) (.slice F LS.length G) LS.length (LS.map slV) (by rfl) (by exact y.out.alloc _) (a__ W.heap.size 0) 1 1 [slV (none,0)] (by rfl) rfl (by exact a98 W (none,0) _) (by intro u hu;simp at hu;subst hu;rfl) m1 m2 (m3 _) (by decide) ?_;intro v' w3 m j S;obtain⟨gn,Z,rfl⟩:=Joins.ownsRow_form m (by omega);have O:Hid _:=I.out.tookL T p.out P.out y.out m j;have z:=a4J p.out y.out j (by decide);have q0:w3.cell? (a__ b 2)=some (.slice F LS.length G):=F_ _ _ _ _ _ _ z;have Al:w3.frozen? (a__ b 2)=false:=(by simp[World.frozen?,z]);clear m j S z);go_end0;exact⟨rfl,⟨_,O.out.1⟩,(E.out.mono Ae).trans O.out.2.1,fun k t cs fr s h1 h2 h3=>(O.out.2.2 t h2 h3 k cs fr ((C.out k).trans s)).trans (C.out k)⟩
 ·have Ap:=(z_.mp hg).1;have Ai:Hid (a9Q w 89 (a8m (-1-(LS.length:Int))) g l 0):=⟨Ak.toList,by simp[Ac,a8m],by simpa[a32]using hg⟩
  clear hb ho hg Ac;have Ab:l≤9223372036854775807:=by unfold maxLen at Am;omega
  go_enter func36,ntmps36;go_wp2_with fail;go_loopw [5] (fun x w'=>∃i:Nat,x=i_ i∧i≤l∧Hid (B__ H w')∧Hid (a9Q w' 89 (a8m (-1-(LS.length:Int))) g l i)∧Hid (∀k:Nat,k≠g→w'.heap[k]? =w.heap[k]?)) (fun x _=>l-(intOf x).toNat);case atStart=>exact⟨0,rfl,by omega,HB.out,Ai.out,fun _ _=>rfl⟩
  case round=>
   obtain⟨i,rfl,hi,E,N,C⟩:=hrel;generalize wr=W at*;have I:Hid (a2H lo W b M Y U LS):=HI.out.keep E.out;have y:Hid (W.ownsRow lo 82 1 (.slice F LS.length G) LS.length (LS.map slV)):=a2g X.out fun g cs fr hh=>E.out.block g (z_.mp hh).1
   have p:Hid (W.heap[b]? =some (.cells #[vN,vC,.slice F LS.length G,M] 38 (0,0))):=(E.out.block b L).trans V.out;have T:lo≤W.heap.size:=by have:=E.out.size;omega
   have m3:∀ob,lo≤(W.alloc ob).heap.size:=fun ob=>by simp;omega
   have c0:W.cell? (a__ b 2)=some (.slice F LS.length G):=F_ _ _ _ _ _ _ p.out;have fz:W.frozen? (a__ b 2)=false:=by simp[World.frozen?,p.out]
   by_cases Ar:i<l
   ·have ti:decide ((i:Int)<(l:Int))=true:=by simp;omega
    obtain⟨B,D,A⟩:=N.out;have An:3≤B.length:=by
     rw[D];have:1*3≤(l-i)*3:=a_H _ (by omega);simpa[a8m]using this
    obtain⟨u0,u1,u2,r,rfl⟩:∃u0 u1 u2 r,B=u0::u1::u2::r:=by
     match B,An with
     |u0::u1::u2::r,_=>exact⟨u0,u1,u2,r,rfl⟩
    have R:=a74 (a8m (-1-(LS.length:Int))) i;have Af:(a8m (-1-(LS.length:Int))).length=3:=rfl;rw[Af]at R D;have q:∀k u,([u0,u1,u2]:List Value)[k]? =some u→W.cell? (a__ g (i*3+k))=some u:=fun k u s=>by
     rw[F_ _ _ _ _ _ _ A,←R];simp only[a_h,V_ (Nat.le_add_right _ _),a_I]
     match k,s with
     |0,s=>exact s
     |1,s=>exact s
     |2,s=>exact s
     |k+3,s=>simp at s
    have q0:=q 0 u0 rfl;have q1:=q 1 u1 rfl;have q2:=q 2 u2 rfl;rw[a_P]at q0;have Aq:∀o,W.frozen? (a__ g o)=false:=fun o=>by simp[World.frozen?,A]
    have Aj:=h__ A;have Ao:H.heap.size≤g:=J;clear q A N I y p;go_wp2_with fail;go_roundw;case rel=>
     refine⟨i+1,by go_num,by omega,(((E.out.setCell J _).setCell J _).setCell J _),⟨r,?_,?_⟩,fun k s=> ?_⟩
     ·simp only[B_]at D;rw[Af];have e:(l-i)*3=(l-(i+1))*3+3:=by rw[←b_d];congr 1;omega
      omega
     ·have k:=(a1p (a1p (a1p Aj.out (i*3) (i_ (-1-(LS.length:Int)))) (i*3+1) (i_ 0)) (i*3+2) (i_ 0))
      have e:((((a32 (a8m (-1-(LS.length:Int))) i++u0::u1::u2::r).set (i*3) (i_ (-1-(LS.length:Int)))).set (i*3+1) (i_ 0)).set (i*3+2) (i_ 0))=a32 (a8m (-1-(LS.length:Int))) (i+1)++r:=by
       rw[←R];simp only[b25,a35,l_,j_];rw[a32,a_y];rfl
      rw[e]at k;exact k
     ·rw[o_ _ _ _ _ s,o_ _ _ _ _ s,o_ _ _ _ _ s];exact C.out k s
    case measure=>simp[intOf];omega
   ·have ti:decide ((i:Int)<(l:Int))=false:=by simp;omega
    obtain rfl:i=l:=by omega
    have P:Hid (a5u W 89 a8m LS.length (some g,i)):=by
     obtain⟨B,D,A⟩:=N.out;rw[b_c,Nat.zero_mul]at D;rw[a_o D,a_i]at A;exact .inr ⟨g,rfl,Ab,A⟩
    go_wp2_with (at_builtin;refine a0X rfl (.tmp 30) (.tmp 32) 35 rfl lo 82 iV (.slice none 0 0) 1 24 underlying35 Ad Ah Ag Aa rfl (by decide) (.slice F LS.length G) LS.length (LS.map slV) (by rfl) (by exact y.out.alloc _) (a__ W.heap.size 0) 1 1 [slV (some g,i)] (by rfl) rfl (by exact a98 W (some g,i) _) (by intro u hu;simp at hu;subst hu;rfl) m1 m2 (m3 _) (by decide) ?_;intro v' w3 m j S;obtain⟨gn,Z,rfl⟩:=Joins.ownsRow_form m (by omega);have O:Hid _:=I.out.tookL T p.out P.out y.out m j;have z:=a4J p.out y.out j (by decide);have q0:w3.cell? (a__ b 2)=some (.slice F LS.length G):=F_ _ _ _ _ _ _ z;have Al:w3.frozen? (a__ b 2)=false:=(by simp[World.frozen?,z]);clear m j S z);go_end0;exact⟨rfl,⟨_,O.out.1⟩,(E.out.mono Ae).trans O.out.2.1,fun k t cs fr s h1 h2 h3=>(O.out.2.2 t h2 h3 k cs fr ((C.out k (fun e=>h1 (by rw[e];rfl))).trans s)).trans (C.out k (fun e=>h1 (by rw[e];rfl)))⟩
end Go.Proofs.YtdgmoiflahoihaaGreatDoor
