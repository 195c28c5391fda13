import Derived.Test.YtdgmoiflahoihaaGreatDoorVPw
import Derived.Test.YtdgmoiflahoihaaGreatDoorKAllw

set_option linter.unusedSimpArgs false
set_option linter.unusedVariables false
set_option maxRecDepth 100000
set_option maxHeartbeats 8000000
namespace Go.Proofs.YtdgmoiflahoihaaGreatDoor
open Go.RowKit
def vl0:Vl:=⟨0,0⟩
def a57(v:Vl):List Value:= [.int .i64 v.num,.int .i64 v.fault]
def a0N(l:List Vl):List Value:=l.flatMap a57
theorem a3j(l:List Vl):(a0N l).length=l.length*2:=by
 induction l with
 |nil=>rfl
 |cons p r ih=>simp only[a0N,List.flatMap_cons,x_]at ih⊢;rw[ih];simp[a57];omega
theorem b2D(l r:List Vl):a0N (l++r)=a0N l++a0N r:=by simp[a0N]
theorem a6o(l:List Vl):∀(i:Nat) (h:i<l.length),(a0N l)[i*2]? =some (i_ l[i].num)∧(a0N l)[i*2+1]? =some (i_ l[i].fault):=by
 induction l with
 |nil=>intro i h;cases h
 |cons p r ih=>
  intro i h;cases i with
  |zero=>simp[a0N,a57]
  |succ i=>
   have:=ih i (by simpa using h);simp only[a0N,List.flatMap_cons,a57]at this⊢;rw[show(i+1)*2=i*2+2 by omega,show i*2+2+1=(i*2+1)+2 by omega];simpa using this
def a2F(st:List Vl):Vl:=st.getLast?.getD vl0
def a1w(names:List Vl)(p:Pt)(st:List Vl):Vl×List Vl:=
 if p.op=1 then(⟨p.num,0⟩,st)
 else if p.op=2 then(names.getD p.num.toNat vl0,st)
 else if p.op=3 then(a4E (a2F st),st.dropLast)
 else(opV p.op (a2F st.dropLast) (a2F st),st.dropLast.dropLast)
def a3s(names:List Vl):List Pt→List Vl→List Vl
 | [],st=>st
 |p::r,st=>a3s names r ((a1w names p st).2++ [(a1w names p st).1])
def a1O(names:List Vl)(l:List Pt):Vl:=a2F (a3s names l [])
theorem a99:a0S vl0:=⟨by simp[vl0],by simp[vl0],by simp[vl0]⟩
theorem a7P{st:List Vl}(h:∀v∈st,a0S v):a0S (a2F st):=by
 unfold a2F;cases e:st.getLast? with
 |none=>exact a99
 |some v=>exact h v (List.mem_of_getLast? e)
theorem a6v{st:List Vl}(h:∀v∈st,a0S v):∀v∈st.dropLast,a0S v:=fun v a=>h v (List.dropLast_subset _ a)
theorem c5V{names:List Vl}(h:∀v∈names,a0S v)(i:Nat):a0S (names.getD i vl0):=by
 rw[t_];cases e:names[i]? with
 |none=>exact a99
 |some v=>exact h v (a_Q e)
def a2q(p:Pt):Prop:= -9223372036854775808≤p.num∧p.num≤9223372036854775807
theorem b8m{names st:List Vl}{p:Pt}(b:∀v∈names,a0S v)(a:∀v∈st,a0S v)(c:a2q p):a0S (a1w names p st).1∧∀v∈(a1w names p st).2,a0S v:=by
 unfold a1w
 split
 ·exact⟨⟨c,by simp,by simp⟩,a⟩
 split
 ·exact⟨c5V b _,a⟩
 split
 ·exact⟨b9F (a7P a),a6v a⟩
 ·exact⟨c2x _ (a7P (a6v a)) (a7P a),a6v (a6v a)⟩
theorem c3a(names st:List Vl)(p:Pt):(a1w names p st).2.length≤st.length:=by
 unfold a1w
 split
 ·exact a_ _
 split
 ·exact a_ _
 split
 ·simp
 ·simp;omega
theorem b7O{names:List Vl}(a:∀v∈names,a0S v):∀(l:List Pt) (st:List Vl),(∀p∈l,a2q p)→(∀v∈st,a0S v)→∀v∈a3s names l st,a0S v
 | [],st,_,hs=>hs
 |p::r,st,hl,hs=>by
  have k:=b8m (names:=names) a hs (hl p (by simp));refine b7O a r _ (fun q b=>hl q (by simp[b])) ?_;intro v c;rcases G_.mp c with h|h
  ·exact k.2 v h
  ·simp at h;rw[h];exact k.1
theorem a56{names:List Vl}(b:∀v∈names,a0S v){l:List Pt}(a:∀p∈l,a2q p):a0S (a1O names l):=
 a7P (b7O b l [] a (by simp))
open Go.Proofs.Tryz
theorem c2X{P:Program}{p:Array Oper}{o:Oper}{a:Act}{w:World}{K:Act→World→Prop}{Q:Exit→Act→World→Prop}{E:Prop}
  (S:o.guard=none) (s x:Operand) (t:TypeId) (B:o.op=Op.call { callee:=Callee.builtin Builtin.append,args:= #[s,x],argTypes:= #[t,t] })
  (g:Nat) (e:TypeId) (i:TypeInfo) (z:Value) (b f:Nat) (G:P.underlying t=some (.slice e)) (H:P.info? e=some i) (I:i.zero=some z) (J:i.size=b) (L:i.bytes=f) (M:z.cells.size=b) (N:0<b)
  (v:Value) (n:Nat) (C:List Value) (U:a.eval s=v) (k:w.ownsRow g e b v n C)
  (y:Addr) (m c:Nat) (d:List Value) (X:a.eval x= .slice (some y) m c) (T:d.length=m*b) (R:∀j u,d[j]? =some u→w.cell? (y.add j)=some u) (A:∀u∈d,u.oneCell'=true)
  (D:n+m≤maxLen) (F:(n+m)*f≤140737488355328) (h:g≤w.heap.size)
  (O:∀r q,q.ownsRow g e b r (n+m) (C++d)→w.grownBy q v.ownBlock→K (a.put o.dst r) q):
  if Region.wanted o (yielded p a.tmps)=true then Oper.wp P o a w K Q else E:=by
 have V:Region.wanted o (yielded p a.tmps)=true:=by simp[Region.wanted,S]
 rw[n_ V];obtain⟨r,q,l,Y,Z,_⟩:=run_append_own (P:=P) w g t o.type e i z b f G H I J L M N v n C k y m c d T R A D F h;unfold Oper.wp;simp[execOp,B,resolve,invoke,builtin,U,X,l,Result.andThen];exact O r q Y Z
theorem c16:(prog.info? 59).map (fun i=>(i.zero,i.size,i.bytes))=some (some (.agg #[i_ 0,i_ 0]),2,16):=by kernel_rfl
theorem b6o{w:World}{b g a n m c:Nat}{e:TypeId}{xs:List Value}(h:w.ownsRow b e a (.slice (some (a__ g 0)) n c) n xs)(s:m≤n):
  w.ownsRow b e a (.slice (some (a__ g 0)) m c) m (xs.take (m*a)):=by
 have j:m*a≤n*a:=a_H _ s;obtain⟨o,p⟩:=h;refine⟨by rw[List.length_take,o];omega,?_⟩;rcases p with⟨l,_⟩|⟨v,k,d,u,q,r,x,f,i,t⟩
 ·cases l
 ·cases u;refine .inr ⟨g,c,d,rfl,q,r,by omega,f,i,?_⟩;rw[←t,List.take_take,Nat.min_eq_left j]
structure a1z(w:World)(b:Nat)(S:Nat→Prop)(st:List Vl):Prop where
 here:∃v,w.cell? ⟨b,0,none⟩=some v∧w.ownsRow (b+1) 59 2 v st.length (a0N st)∧∀k,v.ownBlock=some k→S k
 fz:∀o,w.frozen? ⟨b,o,none⟩=false
theorem a1z.lt{w:World}{b:Nat}{S:Nat→Prop}{st:List Vl}(h:a1z w b S st):b<w.heap.size:=by
 obtain⟨v,c,_⟩:=h.here;exact r_ w _ c
theorem a1z.weak{w:World}{b:Nat}{S R:Nat→Prop}{st:List Vl}(h:a1z w b S st)(g:∀k,S k→k<w.heap.size→R k):a1z w b R st:=by
 obtain⟨⟨v,c,d,f⟩,e⟩:=h;exact⟨⟨v,c,d,fun k a=>g k (f k a) (d.lt k a).2⟩,e⟩
theorem a1C{w w':World}{a b n B:Nat}{e:TypeId}{v:Value}{xs:List Value}(h:w.ownsRow a e b v n xs)(c:Below B w w')(d:w.heap.size≤B):w'.ownsRow a e b v n xs:=
 a5o h fun k f g=>c.block k (by omega)
theorem a1z.keep{w w':World}{b B:Nat}{S:Nat→Prop}{st:List Vl}(h:a1z w b S st)(a:Below B w w')(e:w.heap.size≤B):a1z w' b S st:=by
 have g:=h.lt;obtain⟨⟨v,c,i,f⟩,d⟩:=h;exact⟨⟨v,(a.cell (p:=(a__ b 0)) (by simp only;omega)).trans c,a1C i a e,f⟩,fun o=>(a.frozen (p:=(a__ b o)) (by simp only;omega)).trans (d o)⟩
theorem a1z.alloc{w:World}{b:Nat}{S:Nat→Prop}{st:List Vl}(h:a1z w b S st)(o:Obj):a1z (w.alloc o) b S st:=
 h.keep ((g_ w.heap.size w).alloc (a_ _) o) (a_ _)
theorem a1z.setCell{w:World}{b:Nat}{S:Nat→Prop}{st:List Vl}(h:a1z w b S st){a:Addr}(f:a.block≠b)(l:¬S a.block)(u:Value):a1z (w.setCell a u) b S st:=by
 obtain⟨⟨v,c,j,d⟩,g⟩:=h;refine⟨⟨v,?_,a5o j fun k i m=>o_ _ _ _ _ (fun e=>l (e▸d k i)),d⟩,fun o=> ?_⟩
 ·exact(e_ (w:=w) (a:=(a__ b 0)) (o_ _ _ _ _ (fun e=>f e.symm))).trans c
 ·exact(I_ (w:=w) (a:=(a__ b o)) (o_ _ _ _ _ (fun e=>f e.symm))).trans (g o)
theorem b6O{w w':World}{b:Nat}(h:B__ w w'):But b w w':=⟨h.os,h.tape,h.output,h.size,fun k a _=>h.block k a⟩
theorem a9f{w w':World}{b:Nat}(h:But b w w')(a:b<w.heap.size):Below b w w':=
 ⟨h.os,h.tape,h.output,h.size,fun k c=>h.block k (by omega) (fun e=>by have:=a_E e;omega)⟩
theorem c5z(w:World)(b:Nat)(u:Value)(c d:Obj):But b w (((w.setCell (a__ b 0) u).alloc c).alloc d):=by
 refine⟨rfl,rfl,rfl,by simp;omega,fun k f a=> ?_⟩;have g:(w.setCell (a__ b 0) u).heap.size=w.heap.size:=by simp
 rw[q_ _ _ _ (by simp;omega),q_ _ _ _ (by omega),o_ _ _ _ _ (fun e=>a (by rw[e]))]
theorem c7l(w:World)(o:Obj)(x:Vl)(t:TypeId):∀j u,(a57 x)[j]? =some u→((w.alloc o).alloc (.cells #[i_ x.num,i_ x.fault] t)).drew.cell? ((⟨w.heap.size+1,0,none⟩:Addr).add j)=some u:=by
 intro j u h;have k:=b93 (w.alloc o) (i_ x.num) (i_ x.fault) t j u h;rw[show(w.alloc o).heap.size=w.heap.size+1 by simp]at k;exact k
theorem c0S{w f:World}{b:Nat}{st:List Vl}{v:Value}{i j:Obj}(m:w.cell? (a__ b 0)=some v)(p:∀o,w.frozen? (a__ b o)=false)(n:w.ownsRow (b+1) 59 2 v st.length (a0N st))(c:((w.alloc i).alloc j).drew.grownBy f v.ownBlock):
  f.cell? (a__ b 0)=some v∧(∀o,f.frozen? (a__ b o)=false)∧Below b w f:=by
 have g:=r_ w _ m;simp only at g;have l:B__ w ((w.alloc i).alloc j).drew:=(((g_ _ _).alloc (a_ _) _).alloc (by simp) _).drew;have h:some b≠v.ownBlock:=by
  intro e;have:=(n.lt b e.symm).1;omega
 have q:((w.alloc i).alloc j).drew.heap.size=w.heap.size+1+1:=by simp
 have d:f.heap[b]? =w.heap[b]? :=(c.block b (by omega) h).trans (l.block b (by omega));refine⟨(e_ (w:=w) (a:=(a__ b 0)) d).trans m,fun o=>(I_ (w:=w) (a:=(a__ b o)) d).trans (p o),(l.mono (by omega)).trans ?_⟩;exact⟨c.os,c.tape,c.output,c.size,fun k r=>c.block k (by omega) (fun e=>by have:=(n.lt k e.symm).1;omega)⟩
theorem c4N{d:World}{b:Nat}{st:List Vl}{x:Vl}{v c:Value}(f:d.cell? (a__ b 0)=some v)(e:∀o,d.frozen? (a__ b o)=false)(g:d.ownsRow (b+1) 59 2 c (st.length+1) (a0N st++a57 x)):a1z (d.setCell (a__ b 0) c) b (fun _=>True) (st++ [x]):=by
 refine⟨⟨c,by simp[go_sem,f],?_,fun _ _=>trivial⟩,fun o=>by simp[go_sem,e]⟩;have:=a_d g (a:=(a__ b 0)) (by simp) c;rw[b2D];simpa[a0N]using this
theorem b7M(b:Nat)(st:List Vl)(x:Vl)(w:World){S:Nat→Prop}(h:a1z w b S st)(t:st.length≤100000):
  Calls prog 176 #[.pointer (some (a__ b 0)),vlV x] w fun e w'=>e= .returned (.tuple #[])∧a1z w' b (fun _=>True) (st++ [x])∧Below b w w':=by
 have r:=h.lt;obtain⟨⟨v,p,l,_⟩,o⟩:=h;obtain⟨s,i,k,j,f⟩:=a1v c16;go_enter func176,ntmps176;go_upto_region 1 with fail
 go_region_law (refine c2X rfl (.tmp 8) (.tmp 10) 162 rfl (b+1) 59 s (.agg #[i_ 0,i_ 0]) 2 16 underlying162 i k j f rfl (by decide) v st.length (a0N st) (by simp[Act.eval,Act.put]) (by exact((l.alloc _).alloc _).drew) ⟨w.heap.size+1,0,none⟩ 1 1 (a57 x) (by simp[Act.eval,Act.put]) rfl (c7l w _ x _) (by intro q m;simp[a57]at m;rcases m with rfl|rfl<;>rfl) (by unfold maxLen;omega) (by omega) (by simp;omega) ?_;intro z A a c;have d:=c0S (v:=v) p o l c;have u:=d.1;have y:=d.2.1;obtain⟨g,n,rfl⟩:=Joins.ownsRow_form a (by omega))
 all_goals go_wp2_with fail
 all_goals go_end0
 all_goals exact⟨rfl,c4N d.1 d.2.1 a,d.2.2.setCell (a_ _) _⟩
theorem a7Z(b:Nat)(st:List Vl)(w:World)(S:Nat→Prop)(h:a1z w b S st)(hl:st.length≤100000):
  Calls prog 177 #[.pointer (some (a__ b 0))] w fun e w'=>e= .returned (vlV (a2F st))∧a1z w' b S st.dropLast∧But b w w':=by
 have Y:=h.lt;obtain⟨⟨v,G,i,F⟩,E⟩:=h;have s:=h__ F;clear F;rcases Nat.eq_zero_or_pos st.length with A|A
 ·have y:st= []:=a_6.mp A;subst y;obtain⟨C,f,z⟩:∃C f,v= .slice C 0 f:=by
   rcases Joins.ownsRow_forms i with⟨rfl,_⟩|⟨g,f,rfl⟩<;>exact⟨_,_,rfl⟩
  subst z;go_enter func177,ntmps177;go_wp2_with (first|(go_at_call 100;refine(a1a _ _).mono ?_;rintro e w1 ⟨rfl,t⟩;obtain⟨J,L,B,u⟩:=a0G t;have r:=h__ u;clear t u));refine m_ (v:=vlV ⟨0,0⟩) (by simp[results,results177,go_sem,J,L,B]) rfl ⟨rfl,?_,b6O (a1G r.out _ _)⟩;exact a1z.keep ⟨⟨_,G,i,s.out⟩,E⟩ (a1G r.out _ _) (a_ _)
 ·obtain⟨n,q⟩:∃n,st.length=n+1:=⟨st.length-1,by omega⟩
  rw[q]at i;obtain⟨g,f,z⟩:=Joins.ownsRow_form i (by omega);subst z;obtain⟨N,O⟩:=a6o st n (by omega);rw[←i.cellAt (n*2) (by omega)]at N;rw[←i.cellAt (n*2+1) (by omega)]at O;have j:a2F st=st[n]:=by
   unfold a2F;rw[List.getLast?_eq_getElem?,s_ (by omega)];simp[q]
  rw[j];have p:st.dropLast.length=n:=by simp[q]
  have c:=b6o (m:=n) i (by omega);have d:(a0N st).take (n*2)=a0N st.dropLast:=by
   have P:st=st.dropLast++ [st[n]]:=by
    have:=List.dropLast_concat_getLast (l:=st) (by intro e;rw[e]at q;simp at q);rw[List.getLast_eq_getElem]at this;simp only[q]at this;exact this.symm
   have R:a0N st=a0N st.dropLast++a0N [st[n]]:=by rw[←b2D,←P]
   rw[R,List.take_append_of_le_length (by rw[a3j,p];omega),List.take_of_length_le (by rw[a3j,p];omega)]
  rw[d]at c;generalize hx:st[n]=x at*;have V:=(i.lt g rfl)
  have H:n+1≤f:=by
   rcases i.2 with⟨A,_⟩|⟨g',D,M,z,hb,hg,Z,T,U,ht⟩
   ·cases A
   ·cases z;omega
  have I:=h__ c;clear c d j;go_enter func177,ntmps177;go_wp2_with fail;refine m_ (v:=vlV x) (by simp[results,results177,go_sem]) rfl ⟨rfl,?_,?_⟩
  ·refine a1z.alloc (a1z.alloc ⟨⟨.slice (some (a__ g 0)) n f,by simp[go_sem,G],?_,fun k X=>s.out k X⟩,fun o=>by simp[go_sem,E]⟩ _) _;rw[p];exact a_d I.out (a:=(a__ b 0)) (by simp) _
  ·exact c5z w b _ _ _
def a3h(l:List Vl):Array Value:=(a0N l).toArray
theorem a8X:(prog.info? 102).map (fun i=>i.size)=some 52:=by kernel_rfl
theorem b4g{l:List Vl}(h:l.length=26):(a3h l).size=52:=by unfold a3h;rw[List.size_toArray,a3j,h]
structure a30(w:World)(b:Nat)(l:List Vl):Prop where
 here:w.heap[b]? =some (.cells (a3h l) 102 (0,0))
theorem a30.keep{w w':World}{b B:Nat}{l:List Vl}(h:a30 w b l)(c:Below B w w')(a:b<B):a30 w' b l:=⟨(c.block b a).trans h.here⟩
theorem a30.new(w:World)(l:List Vl):a30 (w.alloc (.cells (a3h l) 102)) w.heap.size l:=⟨R_ w _⟩
theorem a30.cell{w:World}{b:Nat}{l:List Vl}(h:a30 w b l)(i:Nat)(hi:i<l.length):w.cell? (a__ b (i*2))=some (i_ (l.getD i vl0).num)∧w.cell? (a__ b (i*2+1))=some (i_ (l.getD i vl0).fault):=by
 obtain⟨a,c⟩:=a6o l i hi;have e:l.getD i vl0=l[i]:=by rw[t_,s_ hi];rfl
 rw[e];constructor
 ·rw[F_ _ _ _ _ _ _ h.here];simpa[a3h]using a
 ·rw[F_ _ _ _ _ _ _ h.here];simpa[a3h]using c
theorem b4w(w:World)(a b:Obj)(l:List Vl):a30 (((w.alloc a).alloc (.cells (a3h l) 102)).alloc b) (w.heap.size+1) l:=by
 have k:=a30.new (w.alloc a) l;rw[show(w.alloc a).heap.size=w.heap.size+1 by simp]at k;exact k.keep (B:=w.heap.size+2) ((g_ _ _).alloc (by simp) _) (by omega)
structure a3N(w:World)(g:Nat):Prop where
 c0:w.cell? ⟨g,0,none⟩=some (.int .i64 0)
 c1:w.cell? ⟨g,1,none⟩=some (.int .i64 0)
 fz:∀o,w.frozen? ⟨g,o,none⟩=false
theorem a3N.of_block{w w':World}{g:Nat}(h:a3N w g)(e:w'.heap[g]? =w.heap[g]?):a3N w' g:=
 ⟨(e_ (w:=w) (a:=(a__ g 0)) e).trans h.c0,(e_ (w:=w) (a:=(a__ g 1)) e).trans h.c1,fun o=>(I_ (w:=w) (a:=(a__ g o)) e).trans (h.fz o)⟩
theorem a5g{w w':World}{b k:Nat}(h:But b w w')(c:k<w.heap.size)(a:k≠b):w'.heap[k]? =w.heap[k]? :=h.block k c (fun e=>a (a_E e))
theorem b7N(b:Nat)(p:Pt)(names st:List Vl)(w:World)(S:Nat→Prop)(h:a1z w b S st)(hl:st.length≤100000)(hn:names.length=26)(U:∀v∈names,a0S v)(X:∀v∈st,a0S v)(hp:a6K p):
  Calls prog 175 #[.pointer (some (a__ b 0)),.agg #[i_ p.op,i_ p.num],.agg (a3h names)] w fun e w'=>e= .returned (vlV (a1w names p st).1)∧a1z w' b S (a1w names p st).2∧Below b w w':=by
 have Ao:=h.lt;have As:=b4g hn;obtain⟨u,s⟩:=p;simp only at*;have M:B__ w (((w.alloc (.cells #[i_ u,i_ s] 195)).alloc (.cells (a3h names) 102)).alloc (.cells #[i_ 0,i_ 0] 59)):=by
  refine y_ (y_ (y_ (g_ _ _) (a_ _) _) ?_ _) ?_ _<;>simp<;>omega
 have T:=b4w w (.cells #[i_ u,i_ s] 195) (.cells #[i_ 0,i_ 0] 59) names;generalize l:a1w names ⟨u,s⟩ st=tv at*;unfold a1w at l;simp only at l;go_enter func175,ntmps175;go_upto_region 1 with fail;generalize N:(((w.alloc (.cells #[i_ u,i_ s] 195)).alloc (.cells (a3h names) 102)).alloc (.cells #[i_ 0,i_ 0] 59))=W at*;have p0:W.cell? (a__ w.heap.size 0)=some (i_ u):=by rw[←N];simp[go_sem]
 have p1:W.cell? (a__ w.heap.size 1)=some (i_ s):=by rw[←N];simp[go_sem]
 have r0:W.cell? ⟨w.heap.size+1+1,0,none⟩=some (i_ 0):=by rw[←N];simp[go_sem]
 have r1:W.cell? ⟨w.heap.size+1+1,1,none⟩=some (i_ 0):=by rw[←N];simp[go_sem]
 have rf:∀o,W.frozen? ⟨w.heap.size+1+1,o,none⟩=false:=by intro o;rw[←N];simp[go_sem]
 have Am:W.heap.size=w.heap.size+1+1+1:=by rw[←N];simp
 have HR:Hid (a3N W (w.heap.size+1+1)):=⟨r0,r1,rf⟩
 have B:Hid (B__ w W):=M;have O:Hid (a1z W b (fun k=>S k∧k<w.heap.size) st):=(h.weak (fun k I hl=>⟨I,hl⟩)).keep M (a_ _);have HN:Hid (a30 W (w.heap.size+1) names):=T;have HL:=h__ hl;have L:=h__ X;have Al:=h__ U;clear N h M T hl X U;by_cases o1:u=1
 ·subst o1;rw[n_ rfl]at l;subst l;go_wp2_with (first|(go_at_call 100;refine(a1a _ _).mono ?_;rintro e m ⟨rfl,j⟩;have s0:=(j.cell (p:=⟨w.heap.size+1+1,0,none⟩) (by simp only;omega)).trans r0;have s1:=(j.cell (p:=⟨w.heap.size+1+1,1,none⟩) (by simp only;omega)).trans r1;have sf:∀o,m.frozen? ⟨w.heap.size+1+1,o,none⟩=false:=fun o=>(j.frozen (p:=⟨w.heap.size+1+1,o,none⟩) (by simp only;omega)).trans (rf o);have t:Hid (B__ W m):=j;clear j));refine m_ (v:=vlV ⟨s,0⟩) (by simp[results,results175,go_sem,s0,s1,sf]) rfl ⟨rfl,?_,?_⟩
  ·exact(((O.out.keep t.out (a_ _)).setCell (by simp only;omega) (by simp only;omega) _).setCell (by simp only;omega) (by simp only;omega) _).weak (fun k I _=>I.1)
  ·exact(((B.out.mono (by omega)).trans (t.out.mono (by omega))).setCell (by simp only;omega) _).setCell (by simp only;omega) _
 rw[f_ o1]at l;have t1:(u==1)=false:=by simpa using o1
 by_cases o2:u=2
 ·subst o2;rw[n_ rfl]at l;obtain⟨n0,n1⟩:=hp rfl;simp only at n0 n1;obtain⟨nn,rfl⟩:∃nn:Nat,s=nn:=⟨s.toNat,by omega⟩
  rw[W_]at l;obtain⟨m0,m1⟩:=HN.out.cell nn (by omega);generalize names.getD nn vl0=x at*;subst l;go_wp2_with fail;refine m_ (v:=vlV x) (by simp[results,results175,go_sem,r0,r1,rf]) rfl ⟨rfl,?_,?_⟩
  ·exact((O.out.setCell (by simp only;omega) (by simp only;omega) _).setCell (by simp only;omega) (by simp only;omega) _).weak (fun k I _=>I.1)
  ·exact((B.out.mono (by omega)).setCell (by simp only;omega) _).setCell (by simp only;omega) _
 rw[f_ o2]at l;have t2:(u==2)=false:=by simpa using o2
 by_cases o3:u=3
 ·subst o3;rw[n_ rfl]at l;have D:=a7P L.out;generalize Y:a2F st=x at*;have Ac:Hid _:=b9G x D;generalize hy:a4E x=y at*;subst l;have HX:Hid (a2F st=x):=Y;clear Y;go_upto_region 8 with(first|(go_at_call 177;refine(a7Z b st _ _ O.out HL.out).mono ?_;rw[HX.out];rintro e m ⟨rfl,C,j⟩));have Ag:=j.size;have G:Hid (a3N (m.alloc (.cells #[i_ x.num,i_ x.fault] 59)) (w.heap.size+1+1)):=(HR.out.of_block (a5g j (by omega) (by omega))).of_block (q_ _ _ _ (by omega));have F:Hid (a1z (m.alloc (.cells #[i_ x.num,i_ x.fault] 59)) b (fun k=>S k∧k<w.heap.size) st.dropLast):=C.alloc _;have t:Hid (Below b w (m.alloc (.cells #[i_ x.num,i_ x.fault] 59))):=((B.out.mono (by omega)).trans (a9f j (by omega))).alloc (by omega) _;have Aj:(m.alloc (.cells #[i_ x.num,i_ x.fault] 59)).cell? (a__ m.heap.size 0)=some (i_ x.num):=by simp[go_sem]
  have Ak:(m.alloc (.cells #[i_ x.num,i_ x.fault] 59)).cell? (a__ m.heap.size 1)=some (i_ x.fault):=by simp[go_sem]
  have Ah:(m.alloc (.cells #[i_ x.num,i_ x.fault] 59)).heap.size=m.heap.size+1:=by simp
  generalize m.alloc (.cells #[i_ x.num,i_ x.fault] 59)=W1 at*;clear j C O HR B HN r0 r1 rf p0 p1 D hy;go_wp2_with (first|(go_at_call 131;refine(Ac.out _).mono ?_;rintro e A ⟨rfl,r⟩;obtain⟨s0,s1,sf⟩:=G.out.of_block (r.block _ (by omega));have E:Hid (B__ W1 A):=r;have Ai:=r.size;clear r));refine m_ (v:=vlV y) (by simp[results,results175,go_sem,s0,s1,sf]) rfl ⟨rfl,?_,?_⟩
  ·exact(((F.out.keep E.out (a_ _)).setCell (by simp only;omega) (by simp only;omega) _).setCell (by simp only;omega) (by simp only;omega) _).weak (fun k I _=>I.1)
  ·exact((t.out.trans (E.out.mono (by omega))).setCell (by simp only;omega) _).setCell (by simp only;omega) _
 rw[f_ o3]at l;have t3:(u==3)=false:=by simpa using o3
 have D:=a7P L.out;have J:=a7P (a6v L.out);generalize Y:a2F st=x at*;generalize hy:a2F st.dropLast=y at*;have Ad:Hid _:=c2v u y x J D;generalize hz:opV u y x=z at*;subst l;have HX:Hid (a2F st=x):=Y;have HY:Hid (a2F st.dropLast=y):=hy;clear Y hy hz D J;go_upto_region 10 with(first|(go_at_call 177;refine(a7Z b st _ _ O.out HL.out).mono ?_;rw[HX.out];rintro e m ⟨rfl,C,j⟩));have Ag:=j.size;have G:Hid (a3N (m.alloc (.cells #[i_ x.num,i_ x.fault] 59)) (w.heap.size+1+1)):=(HR.out.of_block (a5g j (by omega) (by omega))).of_block (q_ _ _ _ (by omega));have F:Hid (a1z (m.alloc (.cells #[i_ x.num,i_ x.fault] 59)) b (fun k=>S k∧k<w.heap.size) st.dropLast):=C.alloc _;have t:Hid (Below b w (m.alloc (.cells #[i_ x.num,i_ x.fault] 59))):=((B.out.mono (by omega)).trans (a9f j (by omega))).alloc (by omega) _;have Z:(m.alloc (.cells #[i_ x.num,i_ x.fault] 59)).cell? (a__ m.heap.size 0)=some (i_ x.num):=by simp[go_sem]
 have Aa:(m.alloc (.cells #[i_ x.num,i_ x.fault] 59)).cell? (a__ m.heap.size 1)=some (i_ x.fault):=by simp[go_sem]
 have V:(m.alloc (.cells #[i_ x.num,i_ x.fault] 59)).cell? (a__ w.heap.size 0)=some (i_ u):=(e_ (a:=(a__ w.heap.size 0)) ((q_ _ _ _ (by simp only;omega)).trans (a5g j (by simp only;omega) (by simp only;omega)))).trans p0;have Ah:(m.alloc (.cells #[i_ x.num,i_ x.fault] 59)).heap.size=m.heap.size+1:=by simp
 have An:w.heap.size+1+1<m.heap.size:=by omega
 generalize m.alloc (.cells #[i_ x.num,i_ x.fault] 59)=W1 at*;generalize m.heap.size=g1 at*;clear j C O HR B HN r0 r1 rf p0 p1;have Ab:Hid (st.dropLast.length≤100000):=by have:=HL.out;show _≤_;simp;omega
 go_upto_region 11 with(first|(go_at_call 177;refine(a7Z b st.dropLast _ _ F.out Ab.out).mono ?_;rw[HY.out];rintro e A ⟨rfl,R,r⟩));have Ai:=r.size;have Af:Hid (a3N (A.alloc (.cells #[i_ y.num,i_ y.fault] 59)) (w.heap.size+1+1)):=(G.out.of_block (a5g r (by omega) (by omega))).of_block (q_ _ _ _ (by omega));have Ae:Hid (a1z (A.alloc (.cells #[i_ y.num,i_ y.fault] 59)) b (fun k=>S k∧k<w.heap.size) st.dropLast.dropLast):=R.alloc _;have E:Hid (Below b w (A.alloc (.cells #[i_ y.num,i_ y.fault] 59))):=(t.out.trans (a9f r (by omega))).alloc (by omega) _;have Aj:(A.alloc (.cells #[i_ y.num,i_ y.fault] 59)).cell? (a__ A.heap.size 0)=some (i_ y.num):=by simp[go_sem]
 have Ak:(A.alloc (.cells #[i_ y.num,i_ y.fault] 59)).cell? (a__ A.heap.size 1)=some (i_ y.fault):=by simp[go_sem]
 have Ap:(A.alloc (.cells #[i_ y.num,i_ y.fault] 59)).cell? (a__ w.heap.size 0)=some (i_ u):=(e_ (a:=(a__ w.heap.size 0)) ((q_ _ _ _ (by simp only;omega)).trans (a5g r (by simp only;omega) (by simp only;omega)))).trans V;have At:(A.alloc (.cells #[i_ y.num,i_ y.fault] 59)).cell? (a__ g1 0)=some (i_ x.num):=(e_ (a:=(a__ g1 0)) ((q_ _ _ _ (by simp only;omega)).trans (a5g r (by simp only;omega) (by simp only;omega)))).trans Z;have Au:(A.alloc (.cells #[i_ y.num,i_ y.fault] 59)).cell? (a__ g1 1)=some (i_ x.fault):=(e_ (a:=(a__ g1 1)) ((q_ _ _ _ (by simp only;omega)).trans (a5g r (by simp only;omega) (by simp only;omega)))).trans Aa;have Aq:(A.alloc (.cells #[i_ y.num,i_ y.fault] 59)).heap.size=A.heap.size+1:=by simp
 generalize A.alloc (.cells #[i_ y.num,i_ y.fault] 59)=W2 at*;clear r R F G t Z Aa V;go_wp2_with (first|(go_at_call 134;refine(Ad.out _).mono ?_;rintro e w3 ⟨rfl,H⟩;obtain⟨s0,s1,sf⟩:=Af.out.of_block (H.block _ (by omega));have P:Hid (B__ W2 w3):=H;have Ar:=H.size;clear H));refine m_ (v:=vlV z) (by simp[results,results175,go_sem,s0,s1,sf]) rfl ⟨rfl,?_,?_⟩
 ·exact(((Ae.out.keep P.out (a_ _)).setCell (by simp only;omega) (by simp only;omega) _).setCell (by simp only;omega) (by simp only;omega) _).weak (fun k I _=>I.1)
 ·exact((E.out.trans (P.out.mono (by omega))).setCell (by simp only;omega) _).setCell (by simp only;omega) _
def a14:List UInt8→Nat→Nat→Nat
 | [],k,_=>k
 |c::r,k,i=>if a12 c then a14 r (k+1) i else(match i with|0=>k|i+1=>a14 r (k+1) i)
theorem b1R:∀(l:List UInt8) (k:Nat),a2Z l k=a14 l k 0
 | [],k=>rfl
 |c::r,k=>by
  unfold a2Z a14
  split
  ·exact b1R r (k+1)
  ·rfl
theorem b4y:∀(l:List UInt8) (k i:Nat),k≤a14 l k i
 | [],k,i=>a_ _
 |c::r,k,i=>by
  unfold a14
  split
  ·have:=b4y r (k+1) i;omega
  ·cases i with
   |zero=>exact a_ _
   |succ i=>have:=b4y r (k+1) i;simp only;omega
theorem b22:∀(l:List UInt8) (k i:Nat),(a0a l).length≤i→a14 l k i=k+l.length
 | [],k,i,_=>rfl
 |c::r,k,i,h=>by
  unfold a14;unfold a0a at h
  split
  ·rename_i a;rw[n_ a]at h;rw[b22 r (k+1) i h];simp;omega
  ·rename_i a;rw[f_ a]at h;cases i with
   |zero=>simp at h
   |succ i=>simp only;rw[b22 r (k+1) i (by simpa using h)];simp;omega
theorem a2L:∀(l:List UInt8) (k i:Nat),i<(a0a l).length→
  a14 l k i<k+l.length∧l[a14 l k i-k]? =(a0a l)[i]? ∧a2Z (l.drop (a14 l k i-k+1)) (a14 l k i+1)=a14 l k (i+1)∧(atL l k)[i]? =some (a14 l k i:Int)
 | [],k,i,h=>by cases h
 |c::r,k,i,h=>by
  have b:=b4y r (k+1);by_cases d:a12 c=true
  ·have e:a0a (c::r)=a0a r:=by simp[a0a,d]
   have p:∀j,a14 (c::r) k j=a14 r (k+1) j:=by intro j;simp[a14,d]
   have f:atL (c::r) k=atL r (k+1):=by simp[atL,d]
   rw[e]at h⊢;rw[p,p,f];obtain⟨s,m,n,o⟩:=a2L r (k+1) i h;have t:=b i;refine⟨by simp;omega,?_,?_,o⟩
   ·rw[show a14 r (k+1) i-k=(a14 r (k+1) i-(k+1))+1 by omega];simpa using m
   ·rw[show a14 r (k+1) i-k=(a14 r (k+1) i-(k+1))+1 by omega];simpa using n
  ·have a:a12 c=false:=by simpa using d
   have e:a0a (c::r)=c::a0a r:=by simp[a0a,a]
   have f:atL (c::r) k=(k:Int)::atL r (k+1):=by simp[atL,a]
   have g:∀j,a14 (c::r) k (j+1)=a14 r (k+1) j:=by intro j;simp[a14,a]
   have q:a14 (c::r) k 0=k:=by simp[a14,a]
   rw[e]at h⊢;rw[f];cases i with
   |zero=>
    rw[q,g];refine⟨by simp,by simp,?_,by simp⟩;simpa using b1R r (k+1)
   |succ i=>
    rw[g,g];obtain⟨s,m,n,o⟩:=a2L r (k+1) i (by simpa using h);have t:=b i;refine⟨by simp;omega,?_,?_,by simpa using o⟩
    ·rw[show a14 r (k+1) i-k=(a14 r (k+1) i-(k+1))+1 by omega];simpa using m
    ·rw[show a14 r (k+1) i-k=(a14 r (k+1) i-(k+1))+1 by omega];simpa using n
def a5p(t:List UInt8)(i:Nat):Nat:=a14 t 0 i
theorem b0F{t:List UInt8}{i:Nat}(h:(a0a t).length≤i):a5p t i=t.length:=by
 unfold a5p;rw[b22 t 0 i h];omega
structure AtI(t:List UInt8)(r:Rd)(i:Nat):Prop where
 pos:r.pos=a5p t i
 le:i≤(a0a t).length
def inR(c:Option UInt8)(low high:UInt8):Bool:=match c with|none=>false|some b=>decide (low≤b)&&decide (b≤high)
theorem a3M{t:List UInt8}{r:Rd}{i:Nat}(h:AtI t r i)(a b:UInt8):r.seesOne t a b=(!r.bad&&inR (a0a t)[i]? a b):=by
 unfold Rd.seesOne inR;by_cases c:i<(a0a t).length
 ·have:=(a2L t 0 i c).2.1;rw[Nat.sub_zero]at this;rw[h.pos];unfold a5p;rw[this];cases (a0a t)[i]? <;>rfl
 ·rw[h.pos,b0F (by omega),a_Y (a_ _),a_Y (by omega)]
theorem a16{t:List UInt8}{r:Rd}{i:Nat}(h:AtI t r i){a b:UInt8}(l:r.seesOne t a b=true):
  AtI t (r.takeOne t a b).1 (i+1)∧(r.takeOne t a b).1.bad=false∧(r.takeOne t a b).1.depth=r.depth∧∃c,(a0a t)[i]? =some c∧a≤c∧c≤b∧(r.takeOne t a b).2=(c.toNat:Int)-(a.toNat:Int):=by
 have e:=l;rw[a3M h]at e;simp only[Z_,Bool.not_eq_true']at e;obtain⟨m,f⟩:=e;cases g:(a0a t)[i]? with
 |none=>rw[g]at f;cases f
 |some c=>
 rw[g]at f;simp[inR]at f;have n:=(k_.mp g).1;obtain⟨o,j,k,_⟩:=a2L t 0 i n;rw[Nat.sub_zero]at j k;have d:r.pos=a14 t 0 i:=h.pos;unfold Rd.takeOne;rw[n_ l];refine⟨⟨?_,by omega⟩,m,rfl,c,rfl,f.1,f.2,?_⟩
 ·show a2Z (t.drop (r.pos+1)) (r.pos+1)=a5p t (i+1);rw[d];exact k
 ·have:t.getD r.pos 0=c:=by
   rw[t_,d,j,g];rfl
  rw[this]
theorem a93{t:List UInt8}{r:Rd}{i:Nat}(h:AtI t r i){a b:UInt8}(c:r.seesOne t a b=false):(r.takeOne t a b).1= { r with bad:=true } ∧(r.takeOne t a b).2=0:=by
 unfold Rd.takeOne;rw[f_ (by rw[c];decide)];exact⟨rfl,rfl⟩
theorem c38(t:List UInt8):AtI t (Rd.skip t Rd.first) 0:=⟨by show a2Z (t.drop 0) 0=_;rw[List.drop_zero];exact b1R t 0,a_j _⟩
theorem a5O{t:List UInt8}{i:Nat}(h:i<(a0a t).length):(atL t 0)[i]? =some (a5p t i:Int):=(a2L t 0 i h).2.2.2
def a7t(C:List UInt8)(i:Nat)(f g:Fm):Prop:=∃c,C[i]? =some c∧f.next (c.toNat:Int)=(g,true)
def GoC(C:List UInt8)(i:Nat)(f:Fm)(j:Nat)(g:Fm):Prop:=∃n,i+n=j∧∃fs:Nat→Fm,fs 0=f∧fs n=g∧∀k,k<n→a7t C (i+k) (fs k) (fs (k+1))
theorem GoC.refl(C:List UInt8)(i:Nat)(f:Fm):GoC C i f i f:=⟨0,rfl,fun _=>f,rfl,rfl,fun k h=>by omega⟩
theorem GoC.one{C:List UInt8}{i:Nat}{f g:Fm}(h:a7t C i f g):GoC C i f (i+1) g:=
 ⟨1,rfl,fun k=>if k=0 then f else g,rfl,rfl,fun k a=>by
  have:k=0:=by omega
  subst this;exact h⟩
theorem GoC.trans{C:List UInt8}{i j k:Nat}{f g h:Fm}(a:GoC C i f j g)(b:GoC C j g k h):GoC C i f k h:=by
 obtain⟨n,w,d,p,q,r⟩:=a;obtain⟨m,v,l,s,t,u⟩:=b;refine⟨n+m,by omega,fun x=>if x<n then d x else l (x-n),?_,?_,?_⟩
 ·by_cases c:0<n
  ·simp only[c,a_b];exact p
  ·have:n=0:=by omega
   subst this;simp only[a_s,a_g];rw[←p,q,←s]
 ·by_cases c:n+m<n
  ·omega
  ·simp only[c,a_g];rw[show n+m-n=m by omega];exact t
 ·intro x y;show a7t C (i+x) (if x<n then d x else l (x-n)) (if x+1<n then d (x+1)else l (x+1-n));by_cases c:x<n
  ·by_cases o:x+1<n
   ·simp only[c,o,a_b];exact r x c
   ·have e:x+1=n:=by omega
    rw[n_ c,f_ (by omega),show x+1-n=0 by omega,s,←q,←e];exact r x c
  ·rw[f_ c,f_ (by omega)];have:=u (x-n) (by omega);rw[show j+(x-n)=i+x by omega]at this;rw[show x+1-n=x-n+1 by omega];exact this
def a2r(C:List UInt8)(j:Nat)(g:Fm):Prop:=match C[j]? with|some c=>(g.next (c.toNat:Int)).2=false|none=>g.done=false
def a3E:List UInt8→Fm→Nat→Option Nat
 | [],f,j=>if f.done then none else some j
 |c::r,f,j=>if(f.next (c.toNat:Int)).2 then a3E r (f.next (c.toNat:Int)).1 (j+1)else some j
theorem b82(c:UInt8)(r:List UInt8)(f:Fm)(j:Nat):a3E (c::r) f j=if(f.next (c.toNat:Int)).2 then a3E r (f.next (c.toNat:Int)).1 (j+1)else some j:=rfl
theorem b1I:∀(l:List UInt8) (f:Fm) (j:Nat),a3E l f (j+1)=(a3E l f j).map (· +1)
 | [],f,j=>by unfold a3E;split<;>rfl
 |c::r,f,j=>by
  unfold a3E
  split
  ·exact b1I r _ (j+1)
  ·rfl
theorem a9l{t:List UInt8} :∀(l:List UInt8) (k:Nat) (f:Fm),a3F l f k=(match a3E (a0a l) f 0 with|none=> -1|some j=>(a14 l k j:Int))
 | [],k,f=>by
  simp only[a3F,a0a,a3E]
  split<;>simp[a14]
 |c::r,k,f=>by
  by_cases b:a12 c=true
  ·simp only[a3F,a0a,b,a_b];rw[a9l (t:=t) r (k+1) f];cases a3E (a0a r) f 0 with
   |none=>rfl
   |some j=>simp[a14,b]
  ·have a:a12 c=false:=by simpa using b
   simp only[a3F,a0a,a,D_,a_g,a3E]
   split
   ·rw[a9l (t:=t) r (k+1) _,b1I];cases a3E (a0a r) (f.next (c.toNat:Int)).1 0 with
    |none=>rfl
    |some j=>simp[a14,a]
   ·simp[a14,a]
theorem b1H{C:List UInt8} :∀(n i:Nat) (fs:Nat→Fm),(∀k,k<n→a7t C (i+k) (fs k) (fs (k+1)))→a3E (C.drop i) (fs 0) i=a3E (C.drop (i+n)) (fs n) (i+n)
 |0,i,fs,_=>rfl
 |n+1,i,fs,h=>by
  obtain⟨c,d,g⟩:=h 0 (by omega);obtain⟨f,e⟩:=k_.mp d;have b:i<C.length:=by simpa using f
  have a:C[i]=c:=by simpa using e
  rw[u_ b,a,b82,g];simp only[a_b];have:=b1H n (i+1) (fun k=>fs (k+1)) (fun k j=>by have:=h (k+1) (by omega);rw[show i+(k+1)=i+1+k by omega]at this;exact this);rw[this];rw[show i+1+n=i+(n+1)by omega]
theorem b9g{t:List UInt8}{j:Nat}{g:Fm}(h:GoC (a0a t) 0 Fm.start j g)(p:j≤(a0a t).length)(a:a2r (a0a t) j g):placeOf t=(a5p t j:Int):=by
 obtain⟨n,f,i,k,l,d⟩:=h;have e:=b1H n 0 i d;rw[k,l]at e;simp only[a_m]at f e;subst f;rw[List.drop_zero]at e;unfold placeOf;rw[a9l (t:=t) t 0 Fm.start,e];have:a3E ((a0a t).drop n) g n=some n:=by
  unfold a2r at a;cases b:(a0a t)[n]? with
  |none=>
   rw[b]at a;rw[C_ (by have:=List.getElem?_eq_none_iff.mp b;omega)];simp only at a;simp[a3E,a]
  |some c=>
   rw[b]at a;obtain⟨o,m⟩:=k_.mp b;rw[u_ o,m];simp only at a;simp[a3E,a]
 rw[this];rfl
theorem c0r{t:List UInt8}{g:Fm}(h:GoC (a0a t) 0 Fm.start (a0a t).length g)(i:g.done=true):placeOf t= -1:=by
 obtain⟨n,b,c,d,f,a⟩:=h;have e:=b1H n 0 c a;rw[d,f]at e;simp only[a_m]at b e;rw[List.drop_zero,b]at e;unfold placeOf;rw[a9l (t:=t) t 0 Fm.start,e,C_ (a_ _)];simp[a3E,i]
def a09:List Pt→Nat
 | []=>0
 |p::r=>(if p.op=2 then 2^p.num.toNat else 0)|||a09 r
theorem a3Q:∀(a b:List Pt),a09 (a++b)=a09 a|||a09 b
 | [],b=>by simp[a09]
 |p::r,b=>by simp only[O_,a09,a3Q r b,b_B]
structure Sg(C:List UInt8)(i j:Nat)(P:List Pt):Prop where
 le:i≤j
 hj:j≤C.length
 pass:∀n:Int,1≤n→a2N (C.drop i) n i=a2N (C.drop j) n j
 semi:a17 (C.drop i) i=a17 (C.drop j) j
 size:a1S false (seg C i j)=P.length
 names:∀m,a2E (seg C i j) m=m|||a09 P
 ok:∀p∈P,a6K p
theorem a6m{C:List UInt8}{i j k:Nat}(a:i≤j)(b:j≤k):seg C i k=seg C i j++seg C j k:=by
 unfold seg;rw[show C.drop j=(C.drop i).drop (j-i)by rw[List.drop_drop];congr 1;omega,show k-i=(j-i)+(k-j)by omega,List.take_add]
theorem a6n{C:List UInt8}{i:Nat}{c:UInt8}(h:C[i]? =some c):seg C i (i+1)= [c]:=by
 obtain⟨b,a⟩:=k_.mp h;rw[a25 (by omega) (by omega),a,a4n (a_ _)]
theorem a8B:∀(a b:List UInt8) (m:Nat),a2E (a++b) m=a2E b (a2E a m)
 | [],b,m=>rfl
 |c::r,b,m=>by simp only[O_,a2E];exact a8B r b _
def a7V(d:Bool):List UInt8→Bool
 | []=>d
 |c::r=>a7V (dgB c) r
theorem a9v:∀(a b:List UInt8) (d:Bool),a1S d (a++b)=a1S d a+a1S (a7V d a) b
 | [],b,d=>by simp[a1S,a7V]
 |c::r,b,d=>by simp only[O_,a1S,a7V,a9v r b (dgB c)];omega
theorem c05{d:Bool}{c:UInt8}{r:List UInt8}(h:dgB c=false):a1S d (c::r)=a1S false (c::r):=by simp[a1S,h]
theorem b5y:∀(a b:List UInt8) (d:Bool),a7V d (a++b)=a7V (a7V d a) b
 | [],b,d=>rfl
 |c::r,b,d=>by simp only[O_,a7V];exact b5y r b _
theorem c2b{C:List UInt8}{i j:Nat}{c:UInt8}(hi:i<j)(h:C[j-1]? =some c)(a:j≤C.length):a7V false (seg C i j)=dgB c:=by
 rw[a6m (show i≤j-1 by omega) (show j-1≤j by omega),b5y];have:=a6n h;rw[show j-1+1=j by omega]at this;rw[this];rfl
theorem Sg.cat{C:List UInt8}{i j k:Nat}{P Q R:List Pt}(a:Sg C i j P)(b:Sg C j k Q)(r:R.length=P.length+Q.length)(s:a09 R=a09 P|||a09 Q)(t:∀p∈R,p∈P∨p∈Q)
  (h:(∃c,C[j]? =some c∧dgB c=false)∨(i<j→∃c,C[j-1]? =some c∧dgB c=false)):Sg C i k R:=by
 refine⟨K_ a.le b.le,b.hj,fun n f=>(a.pass n f).trans (b.pass n f),a.semi.trans b.semi,?_,?_,fun p u=>(t p u).elim (a.ok p) (b.ok p)⟩
 ·rw[a6m a.le b.le,a9v,a.size,r,←b.size];congr 1;have v:=b.size;rcases h with⟨c,g,d⟩|h
  ·by_cases l:j<k
   ·obtain⟨q,o⟩:=k_.mp g;rw[a25 l b.hj,o];exact c05 d
   ·rw[a4n (C:=C) (show k≤j by omega)];rfl
  ·by_cases e:i<j
   ·obtain⟨c,g,d⟩:=h e;rw[c2b e g a.hj,d]
   ·rw[a4n (C:=C) (show j≤i by omega)];rfl
 ·intro m;rw[a6m a.le b.le,a8B,a.names,b.names,s,b_B]
theorem Sg.nil{C:List UInt8}{i:Nat}(h:i≤C.length):Sg C i i []:=by
 refine⟨a_ _,h,fun _ _=>rfl,rfl,?_,fun m=> ?_,fun p a=>by cases a⟩
 ·rw[a4n (a_ _)];rfl
 ·rw[a4n (a_ _)];simp[a2E,a09]
theorem b2Z{C:List UInt8}{i:Nat}{c:UInt8}(h:C[i]? =some c)(a:dl c=0)(n:Int)(e:1≤n):a2N (C.drop i) n i=a2N (C.drop (i+1)) n (i+1):=by
 obtain⟨d,b⟩:=k_.mp h;rw[a3u d,b,a,f_ (by omega),Int.add_zero]
theorem a2P{C:List UInt8}{i:Nat}{c:UInt8}(h:C[i]? =some c)(a:c≠59):a17 (C.drop i) i=a17 (C.drop (i+1)) (i+1):=by
 obtain⟨d,b⟩:=k_.mp h;rw[u_ d,b];simp[a17,a]
theorem Sg.byte{C:List UInt8}{i:Nat}{c:UInt8}{p:Pt}(h:C[i]? =some c)(f:dl c=0)(o:c≠59)(g:nmB c=true→p.op=2∧p.num=(c.toNat:Int)-97)(j:nmB c=false→p.op≠2):Sg C i (i+1) [p]:=by
 have r:=(k_.mp h).1;have b:c≠40∧c≠41:=by
  constructor<;>(intro e;subst e;revert f;decide)
 refine⟨by omega,by omega,b2Z h f,a2P h o,?_,fun m=> ?_,?_⟩
 ·rw[a6n h];simp[a1S,b.1,b.2]
 ·rw[a6n h];cases a:nmB c
  ·simp[a2E,a,a09,j a]
  ·obtain⟨l,n⟩:=g a;have d:=a;simp[nmB]at d;have:p.num.toNat=c.toNat-97:=by omega
   simp[a2E,a,a09,l,this]
 ·intro q k;simp at k;subst k;intro e;cases a:nmB c
  ·exact absurd e (j a)
  ·obtain⟨_,n⟩:=g a;simp[nmB]at a;omega
theorem b3j{c:UInt8}(h:dgB c=true):dl c=0∧c≠59∧nmB c=false∧c≠40∧c≠41:=by
 simp[dgB]at h;have a:∀k:UInt8,(k.toNat<48∨57<k.toNat)→c≠k:=by intro k i e;subst e;omega
 refine⟨?_,a 59 (by decide),by simp[nmB];omega,a 40 (by decide),a 41 (by decide)⟩;have b:=a 40 (by decide);have d:=a 123 (by decide);have f:=a 41 (by decide);have g:=a 125 (by decide);simp[dl,b,d,f,g]
theorem b2i:∀(l:List UInt8),(∀c∈l,dgB c=true)→a1S true l=0∧∀m,a2E l m=m
 | [],_=>⟨rfl,fun _=>rfl⟩
 |c::r,h=>by
  have a:=h c (by simp);obtain⟨e,f⟩:=b2i r (fun x d=>h x (by simp[d]));have b:=b3j a;refine⟨by simp[a1S,a,e],fun m=>by simp[a2E,b.2.2.1,f]⟩
theorem b2h{C:List UInt8} :∀(n i:Nat),(∀k,k<n→∃c,C[i+k]? =some c∧dgB c=true)→(∀m:Int,1≤m→a2N (C.drop i) m i=a2N (C.drop (i+n)) m (i+n))∧a17 (C.drop i) i=a17 (C.drop (i+n)) (i+n)
 |0,i,_=>⟨fun _ _=>rfl,rfl⟩
 |n+1,i,h=>by
  obtain⟨c,a,e⟩:=h 0 (by omega);have d:=b3j e;obtain⟨p,q⟩:=b2h n (i+1) (fun k f=>by have:=h (k+1) (by omega);rwa[show i+(k+1)=i+1+k by omega]at this);rw[show i+(n+1)=i+1+n by omega];exact⟨fun m b=>(b2Z a d.1 m b).trans (p m b),(a2P a d.2.1).trans q⟩
theorem Sg.number{C:List UInt8}{i j:Nat}(a:i<j)(o:j≤C.length)(h:∀k,i≤k→k<j→∃c,C[k]? =some c∧dgB c=true)(v:Int):Sg C i j [⟨1,v⟩]:=by
 obtain⟨p,q⟩:=b2h (C:=C) (j-i) i (fun k t=>h (i+k) (by omega) (by omega));rw[show i+(j-i)=j by omega]at p q;have b:∀c∈seg C (i+1) j,dgB c=true:=by
  intro c f;unfold seg at f;obtain⟨k,t,rfl⟩:=b_q f;simp at t;obtain⟨d,l,n⟩:=h (i+1+k) (by omega) (by omega);simp only[List.getElem_take,List.getElem_drop];have:C[i+1+k]? =some C[i+1+k]:=s_ (by omega);rw[l]at this;cases this;exact n
 obtain⟨w,y⟩:=b2i _ b;obtain⟨c,f,r⟩:=h i (a_ _) a;have g:=b3j r;obtain⟨z,s⟩:=k_.mp f;refine⟨by omega,o,p,q,?_,fun m=> ?_,fun x u=>by simp at u;subst u;intro e;simp at e⟩
 ·rw[a25 a o,s];simp[a1S,r,w,g.2.2.2.1,g.2.2.2.2]
 ·rw[a25 a o,s];simp[a2E,g.2.2.1,y,a09]
theorem Sg.pair{C:List UInt8}{i j:Nat}{P:List Pt}(a:Sg C (i+1) j P)(d:C[i]? =some 40)(c:C[j]? =some 41)(g:dgB 40=false):Sg C i (j+1) P:=by
 obtain⟨k,h⟩:=k_.mp d;obtain⟨f,e⟩:=k_.mp c;have b:=a.le;refine⟨by omega,by omega,fun n l=> ?_,?_,?_,fun m=> ?_,a.ok⟩
 ·rw[a3u k,h,show dl 40=1 by decide,f_ (by omega),a.pass (n+1) (by omega),a3u f,e,show dl 41= -1 by decide,f_ (by omega),show n+1+ -1=n by omega]
 ·rw[a2P d (by decide),a.semi,a2P c (by decide)]
 ·rw[a6m (show i≤i+1 by omega) (show i+1≤j+1 by omega),a6n d,a6m b (show j≤j+1 by omega),a6n c,a9v,a9v];simp only[a7V,g];rw[a.size];simp[a1S]
 ·rw[a6m (show i≤i+1 by omega) (show i+1≤j+1 by omega),a6n d,a6m b (show j≤j+1 by omega),a6n c,a8B,a8B,a.names];simp[a2E,nmB]
theorem c5W(c k:UInt8):inR (some c) k k=decide (c=k):=by
 simp only[inR,H_];rw[M_];simp;constructor
 ·intro h;exact a_p.mp (by omega)
 ·intro h;subst h;omega
theorem b3x(c:UInt8):inR (some c) 48 57=dgB c:=by simp[inR,dgB,H_]
theorem a94(c:UInt8):inR (some c) 97 122=nmB c:=by simp[inR,nmB,H_]
theorem a8Z(c:UInt8):a4c (c.toNat:Int)=dgB c:=by
 rw[M_];simp[a4c,dgB];omega
theorem a75(c:UInt8):a2f (c.toNat:Int)=nmB c:=by
 rw[M_];simp[a2f,nmB];omega
theorem b7l(c:UInt8):a8j (c.toNat:Int)=scB c:=by
 rw[M_];simp[a8j,scB];omega
theorem a1V{c k:UInt8}(h:c≠k):c.toNat≠k.toNat:=fun e=>h (a_p.mp e)
theorem c6u{f:Fm}{c:UInt8}(h:dgB c=true):f.unit (c.toNat:Int)=({ f with digits:=1,st:=11 },true):=by
 unfold Fm.unit Fm.to;rw[a8Z,n_ h]
theorem c1B{c:UInt8}(h:dgB c=true):nmB c=false:=(b3j h).2.2.1
theorem c6v{f:Fm}{c:UInt8}(h:nmB c=true):f.unit (c.toNat:Int)=({ f with st:=12 },true):=by
 have a:dgB c=false:=by
  cases a:dgB c with
  |false=>rfl
  |true=>rw[c1B a]at h;cases h
 unfold Fm.unit Fm.to;rw[a8Z,a75,f_ (by rw[a];decide),n_ h]
theorem c1d(f:Fm):f.unit ((45:UInt8).toNat:Int)=({ f with st:=10 },true):=by
 simp[Fm.unit,Fm.to,a4c,a2f]
theorem c3o{f:Fm}(h:f.op.length<8):f.unit ((40:UInt8).toNat:Int)=({ f with op:=(if f.related then 69 else 101)::f.op,related:=false,st:=10 },true):=by
 simp[Fm.unit,Fm.to,a4c,a2f,h]
theorem c3n{f:Fm}(h:¬f.op.length<8):(f.unit ((40:UInt8).toNat:Int)).2=false:=by
 simp[Fm.unit,Fm.to,a4c,a2f,h]
theorem c6w{f:Fm}{c:UInt8}(a:dgB c=false)(b:nmB c=false)(d:c≠45)(e:c≠40):(f.unit (c.toNat:Int)).2=false:=by
 have g:=a1V d;have h:=a1V e;unfold Fm.unit Fm.to;rw[a8Z,a75,f_ (by rw[a];decide),f_ (by rw[b];decide),f_ (by simp at g;omega),f_ (by simp at h;omega)]
def opB(c:UInt8):Bool:=c==43||c==45||c==42||c==47||c==37
theorem c3C{f:Fm}{c:UInt8}(h:opB c=true):f.after (c.toNat:Int)=({ f with st:=10 },true):=by
 simp[opB]at h;rcases h with(((rfl|rfl)|rfl)|rfl)|rfl<;>simp[Fm.after,Fm.to]
theorem c1m{f:Fm}{c:UInt8}(h:c=60∨c=61)(a:f.related=false):f.after (c.toNat:Int)=({ f with related:=true,st:=10 },true):=by
 rcases h with rfl|rfl<;>simp[Fm.after,Fm.to,a]
theorem b98{f:Fm}(h:f.paren=false):f.after ((59:UInt8).toNat:Int)=({ f with st:=0 },true):=by
 simp[Fm.after,Fm.to,h]
theorem b01{f:Fm}(h:f.paren=true):(f.after ((59:UInt8).toNat:Int)).2=false:=by
 simp[Fm.after,Fm.to,h]
theorem b6e{f:Fm}(h:f.top=99):f.after ((41:UInt8).toNat:Int)=({ f with op:=f.op.tail,related:=false,block:= [49],st:=14 },true):=by
 simp[Fm.after,Fm.to,h]
theorem b6f{f:Fm}(h:f.top=101):f.after ((41:UInt8).toNat:Int)=({ f with op:=f.op.tail,related:=false,st:=12 },true):=by
 simp[Fm.after,Fm.to,h]
theorem b6d{f:Fm}(h:f.top=69):f.after ((41:UInt8).toNat:Int)=({ f with op:=f.op.tail,related:=true,st:=12 },true):=by
 simp[Fm.after,Fm.to,h]
theorem b4n{f:Fm}(h:f.paren=false):(f.after ((41:UInt8).toNat:Int)).2=false:=by
 simp[Fm.paren]at h;simp[Fm.after,Fm.to,h]
theorem b2I{f:Fm}{c:UInt8}(a:opB c=false)(k:(c=60∨c=61)→f.related=true)(l:c≠59)(m:c≠41):(f.after (c.toNat:Int)).2=false:=by
 simp[opB]at a;have d:=a1V a.1.1.1.1;have e:=a1V a.1.1.1.2;have g:=a1V a.1.1.2;have i:=a1V a.1.2;have j:=a1V a.2;have n:=a1V l;have o:=a1V m;simp at d e g i j n o;unfold Fm.after Fm.to;rw[f_ (by omega)];rw[f_ (by
  rintro⟨h,b⟩;have:c=60∨c=61:=by
   rcases h with h|h
   ·exact .inl (a_p.mp (by simp;omega))
   ·exact .inr (a_p.mp (by simp;omega))
  rw[k this]at b;cases b)]
 rw[f_ (by omega),f_ (by omega),f_ (by omega),f_ (by omega)]
theorem b6I{f:Fm}{c:UInt8}(h:dgB c=true):(f.after (c.toNat:Int)).2=false:=by
 simp[dgB]at h;unfold Fm.after Fm.to;rw[f_ (by omega),f_ (by omega),f_ (by omega),f_ (by omega),f_ (by omega),f_ (by omega)]
theorem c60{f:Fm}(h:f.st=10)(c:Int):f.next c=f.unit c:=by
 unfold Fm.next;simp[h]
theorem b3N{f:Fm}(h:f.st=12)(c:Int):f.next c=f.after c:=by
 unfold Fm.next;simp[h]
theorem b5I{f:Fm}(h:f.st=11){c:UInt8}(a:dgB c=true):f.next (c.toNat:Int)=({ f with digits:=f.digits+1 },decide (f.digits+1≤18)):=by
 unfold Fm.next;rw[a8Z];simp[h,a]
theorem c2o{f:Fm}(h:f.st=11){c:UInt8}(a:dgB c=false):f.next (c.toNat:Int)=f.after (c.toNat:Int):=by
 unfold Fm.next;rw[a8Z];simp[h,a]
structure a5a(C:List UInt8)(i:Nat)(f:Fm):Prop where
 nd:f.done=false
 nx:∀c,C[i]? =some c→f.next (c.toNat:Int)=f.unit (c.toNat:Int)
 pv:0<i→∃d,C[i-1]? =some d∧dgB d=false
structure a7n(C:List UInt8)(i:Nat)(f g:Fm):Prop where
 op:g.op=f.op
 body:g.body=f.body
 nd:g.done=false
 nx:∀c,C[i]? =some c→dgB c=false→g.next (c.toNat:Int)=g.after (c.toNat:Int)
 dg:∀c,C[i]? =some c→dgB c=true→(g.next (c.toNat:Int)).2=false
def Out(t:List UInt8)(x y:RP)(i:Nat)(f:Fm)(Q:Nat→Fm→Prop):Prop:=
 ∃a g P,AtI t y.1 a∧GoC (a0a t) i f a g∧y.2=x.2++P∧(y.1.bad=true→a2r (a0a t) a g)∧(y.1.bad=false→Q a g∧Sg (a0a t) i a P∧i<a)
theorem c3J{r:Rd}(h:r.bad=true):({ r with bad:=true } :Rd)=r:=by cases r;simp at h;simp[h]
theorem c0L{t:List UInt8}{r:Rd}(h:r.bad=true)(n:Nat):a01 t n r=(r,0):=by
 cases n with
 |zero=>rfl
 |succ n=>exact b0D n (a4r h 45 45)
theorem c0V{t:List UInt8}{a:RP→RP}{x:RP}(h:x.1.bad=true):a3b t a x=x:=by
 unfold a3b;simp[a4r h,c3J h]
theorem b58{t:List UInt8}{a:RP→RP}{x:RP}(h:x.1.bad=true):a2C t a x=x:=by
 unfold a2C;rw[c0L h];simp only;rw[c0V (x:=(x.1,x.2)) h];simp[negs]
theorem a5n{t:List UInt8}{r:Rd}(h:r.bad=true)(a b:UInt8)(p q:Int):r.oper t a p b q=(r,0):=by
 unfold Rd.oper;simp[a4r h]
theorem a7i{t:List UInt8}{r:Rd}(h:r.bad=true):r.prodOper t=(r,0):=by
 unfold Rd.prodOper;rw[a4r h,a5n h];simp
theorem b5R{t:List UInt8}{a:RP→RP}{x:RP}(h:x.1.bad=true)(k:Nat):a47 t a k x=x:=by
 cases k with
 |zero=>rfl
 |succ k=>exact b3V k (a7i h)
theorem b1M{t:List UInt8}{a:RP→RP}{x:RP}(h:x.1.bad=true):a2Y t a x=x:=by
 unfold a2Y;rw[b58 h,b5R h]
theorem b8j{t:List UInt8}{a:RP→RP}{x:RP}(h:x.1.bad=true)(k:Nat):a6s t a k x=x:=by
 cases k with
 |zero=>rfl
 |succ k=>exact b52 k (a5n h _ _ _ _)
theorem c46{t:List UInt8}{a:RP→RP}{x:RP}(h:x.1.bad=true):a1E t a x=x:=by
 unfold a1E;rw[b1M h,b8j h]
theorem c3T{t:List UInt8}{a:RP→RP}{x:RP}(h:x.1.bad=true):a6L t a x=x:=by
 unfold a6L;rw[c46 h];simp only;rw[a5n h];simp
theorem a1r{t:List UInt8}{r:Rd}{i:Nat}(h:AtI t r i)(a:r.bad=false)(k:UInt8):r.seesOne t k k=true↔(a0a t)[i]? =some k:=by
 rw[a3M h,a];cases (a0a t)[i]? with
 |none=>simp[inR]
 |some c=>rw[c5W];simp
theorem a1M{t:List UInt8}{r:Rd}{i:Nat}(h:AtI t r i)(b:r.bad=false){k:UInt8}(a:r.seesOne t k k=false):(a0a t)[i]? ≠some k:=by
 intro e;rw[(a1r h b k).mpr e]at a;cases a
theorem b39{C:List UInt8}{i:Nat}{f:Fm}(h:a5a C i f)(b:∀c,C[i]? =some c→(f.unit (c.toNat:Int)).2=false):a2r C i f:=by
 unfold a2r;cases a:C[i]? with
 |none=>exact h.nd
 |some c=>simp only;rw[h.nx c a];exact b c a
theorem a6W{f:Fm}(h:f.st≠0∧f.st≠1):f.done=false:=by simp[Fm.done,h.1,h.2]
theorem a9a{C:List UInt8}{i:Nat}{f:Fm}(h:f.st=10)(a:∃d,C[i]? =some d∧dgB d=false):a5a C (i+1) f:=
 ⟨a6W (by rw[h];decide),fun c _=>c60 h _,fun _=>by simpa using a⟩
theorem b3L{t:List UInt8} :∀(n:Nat) (r:Rd) (i:Nat) (f:Fm),AtI t r i→r.bad=false→a5a (a0a t) i f→(a0a t).length-i<n→
  ∃a g,AtI t (a01 t n r).1 a∧(a01 t n r).1.bad=false∧(a01 t n r).1.depth=r.depth∧GoC (a0a t) i f a g∧a5a (a0a t) a g∧g.op=f.op∧g.body=f.body∧g.related=f.related∧(a0a t)[a]? ≠some 45∧Sg (a0a t) i a (negs (a01 t n r).2)
 |0,r,i,f,h,hb,hu,hn=>by omega
 |n+1,r,i,f,h,hb,hu,hn=>by
  cases c:r.seesOne t 45 45
  ·rw[b0D n c];exact⟨i,f,h,hb,rfl,GoC.refl _ _ _,hu,rfl,rfl,rfl,a1M h hb c,Sg.nil h.le⟩
  ·have b:=(a1r h hb 45).mp c;have E:=(k_.mp b).1;obtain⟨q,s,u,_⟩:=a16 h c;have l:a7t (a0a t) i f { f with st:=10 } :=⟨45,b,by rw[hu.nx 45 b];exact c1d f⟩
   have m:a5a (a0a t) (i+1) { f with st:=10 } :=a9a rfl ⟨45,b,by decide⟩;obtain⟨a,g,v,w,x,y,z,A,B,C,D,d⟩:=b3L n (r.takeOne t 45 45).1 (i+1) _ q s m (by omega);rw[b5D n c];refine⟨a,g,v,w,x.trans u,(GoC.one l).trans y,z,A,B,C,D,?_⟩;have j:Sg (a0a t) i (i+1) [⟨3,0⟩]:=Sg.byte b (by decide) (by decide) (fun e=>by revert e;decide) (fun _=>by decide);refine j.cat d ?_ ?_ ?_ (.inr fun _=>⟨45,by simpa using b,by decide⟩)
   ·simp[negs];omega
   ·have:∀k,a09 (negs k)=0:=by
     intro k;induction k with
     |zero=>rfl
     |succ k ih=>simp[negs,a_4,a09]at ih⊢;exact ih
    rw[this,this];rfl
   ·intro p o;exact .inl (by simp[negs]at o;simp[o])
theorem b7D{t:List UInt8} :∀(n:Nat) (r:Rd) (v:Int) (i:Nat) (f:Fm),AtI t r i→r.bad=false→f.st=11→f.digits+n=18→
  ∃b g,AtI t (Rd.numF t n r v).1 b∧(Rd.numF t n r v).1.bad=false∧(Rd.numF t n r v).1.depth=r.depth∧GoC (a0a t) i f b g∧g.op=f.op∧g.body=f.body∧g.related=f.related∧g.st=11∧(∀c,(a0a t)[b]? =some c→dgB c=true→g.digits=18)∧i≤b∧∀k,i≤k→k<b→∃c,(a0a t)[k]? =some c∧dgB c=true
 |0,r,v,i,f,h,hb,hf,hd=>⟨i,f,h,hb,rfl,GoC.refl _ _ _,rfl,rfl,rfl,hf,fun _ _ _=>by omega,a_ _,fun k o l=>by omega⟩
 |n+1,r,v,i,f,h,hb,hf,hd=>by
  unfold Rd.numF;cases e:r.seesOne t 48 57
  ·rw[f_ (by decide)];refine⟨i,f,h,hb,rfl,GoC.refl _ _ _,rfl,rfl,rfl,hf,fun c d a=> ?_,a_ _,fun k o l=>by omega⟩;rw[a3M h,hb,d,b3x,a]at e;cases e
  ·rw[n_ rfl];obtain⟨p,q,s,c,d,_⟩:=a16 h e;have a:dgB c=true:=by
    rw[a3M h,hb,d,b3x]at e;simpa using e
   have m:a7t (a0a t) i f { f with digits:=f.digits+1 } :=⟨c,d,by rw[b5I hf a];simp;omega⟩
   obtain⟨b,g,u,x,y,z,A,B,C,D,E,w,j⟩:=b7D n (r.takeOne t 48 57).1 (v*10+(r.takeOne t 48 57).2) (i+1) { f with digits:=f.digits+1 } p q hf (by simp only;omega);refine⟨b,g,u,x,y.trans s,(GoC.one m).trans z,A,B,C,D,E,by omega,fun k o l=> ?_⟩;by_cases F:k=i
   ·subst F;exact⟨c,d,a⟩
   ·exact j k (by omega) l
def a4p(a:RP→RP):Prop:=∀x:RP,x.1.bad=true→a x=x
def a7p(t:List UInt8)(n:Nat)(a:RP→RP):Prop:=∀(x:RP) (i:Nat) (f:Fm),AtI t x.1 i→x.1.bad=false→x.1.depth=f.op.length→Fit t n x→a5a (a0a t) i f→f.related=false→
 Out t x (a x) i f fun b g=>a7n (a0a t) b f g∧(∀c,(a0a t)[b]? =some c→opB c=false∧((c=60∨c=61)→g.related=true))
theorem c0W{t:List UInt8}{n:Nat}{j:RP→RP}(hc:a7p t n j)(ha:a3D t n j)(Af:a4p j)(x:RP)(i:Nat)(f:Fm)(h:AtI t x.1 i)(G:x.1.bad=false)(hd:x.1.depth=f.op.length)(hf:Fit t (n+1) x)(T:a5a (a0a t) i f)(Ad:(a0a t)[i]? ≠some 45):
  Out t x (a3b t j x) i f fun v g=>a7n (a0a t) v f g∧g.related=f.related:=by
 obtain⟨r,l⟩:=x;simp only at h G hd;unfold a3b;simp only;cases U:r.seesOne t 48 57;case true=>
  rw[n_ rfl];obtain⟨J,L,a3,c,a,_⟩:=a16 h U;have z:dgB c=true:=by
   rw[a3M h,G,a,b3x]at U;simpa using U
  have q:a7t (a0a t) i f { f with digits:=1,st:=11 } :=⟨c,a,by rw[T.nx c a];exact c6u z⟩
  obtain⟨v,g,w,M,X,b4,b5,b6,b7,b8,b9,An,Ac⟩:=b7D 17 (r.takeOne t 48 57).1 (r.takeOne t 48 57).2 (i+1) { f with digits:=1,st:=11 } J L rfl rfl;refine⟨v,g,[⟨1,(r.number t).2⟩],w,(GoC.one q).trans b4,rfl,fun e=> ?_,fun _=>⟨⟨⟨b5,b6,a6W (by rw[b8];decide),fun d _ m=>c2o b8 m,fun d hd m=> ?_⟩,b7⟩,?_,by omega⟩⟩
  ·exact absurd (M.symm.trans e) (by decide)
  ·rw[b5I b8 m,b9 d hd m];rfl
  ·refine Sg.number (by omega) w.le (fun k h1 h2=> ?_) _;by_cases hk:k=i
   ·subst hk;exact⟨c,a,z⟩
   ·exact Ac k (by omega) h2
 case false=>
 rw[f_ (by decide)];cases V:r.seesOne t 97 122;case true=>
  rw[n_ rfl];obtain⟨J,L,a3,c,a,_,_,hv⟩:=a16 h V;have E:nmB c=true:=by
   rw[a3M h,G,a,a94]at V;simpa using V
  have q:a7t (a0a t) i f { f with st:=12 } :=⟨c,a,by rw[T.nx c a];exact c6v E⟩
  have Ai:=E;simp[nmB]at Ai;refine⟨i+1,{ f with st:=12 },[⟨2,(r.takeOne t 97 122).2⟩],J,GoC.one q,rfl,fun e=> ?_,fun _=>⟨⟨⟨rfl,rfl,a6W ⟨by simp,by simp⟩,fun d _ _=>b3N rfl _,fun d _ m=> ?_⟩,rfl⟩,?_,by omega⟩⟩
  ·exact absurd (L.symm.trans e) (by decide)
  ·rw[b3N rfl];exact b6I m
  ·refine Sg.byte a ?_ ?_ (fun _=>⟨rfl,hv⟩) (fun e=>by rw[E]at e;cases e)
   ·exact c0o (by omega) (by omega) (by omega) (by omega)
   ·intro e;subst e;revert E;decide
 case false=>
 rw[f_ (by decide)];cases Z:r.seesOne t 40 40;case false=>
  rw[f_ (by decide)];refine⟨i,f,[],⟨h.pos,h.le⟩,GoC.refl _ _ _,by simp,fun _=>b39 T fun c a=> ?_,fun e=>by cases e⟩;refine c6w ?_ ?_ ?_ ?_
  ·rw[a3M h,G,a,b3x]at U;simpa using U
  ·rw[a3M h,G,a,a94]at V;simpa using V
  ·intro e;subst e;exact Ad a
  ·intro e;subst e;exact a1M h G Z a
 case true=>
  rw[n_ rfl];have a:=(a1r h G 40).mp Z;obtain⟨f1,Ag,_⟩:=a9J hf Z;by_cases h8:f.op.length<8
  ·--room
   have I:r.room=r:=by unfold Rd.room;rw[f_ (by omega)]
   obtain⟨J,L,a3,_⟩:=a16 h Z;have C:r.opening t 40= { (r.takeOne t 40 40).1 with depth:=(r.takeOne t 40 40).1.depth+1 } :=by unfold Rd.opening;rw[I]
   have Aa:AtI t (r.opening t 40) (i+1):=by rw[C];exact⟨J.pos,J.le⟩
   have Ab:(r.opening t 40).bad=false:=by rw[C];exact L
   generalize A:({ f with op:=(if f.related then 69 else 101)::f.op,related:=false,st:=10 } :Fm)=Y;have q:a7t (a0a t) i f Y:=⟨40,a,by rw[T.nx 40 a,←A];exact c3o h8⟩
   have B:Y.op=(if f.related then 69 else 101)::f.op:=by rw[←A]
   have Am:a5a (a0a t) (i+1) Y:=a9a (by rw[←A]) ⟨40,a,by decide⟩;obtain⟨v,g,P,w,M,X,b4,b5⟩:=hc (r.opening t 40,l) (i+1) Y Aa Ab (by rw[Ag,B];simp;omega) f1 Am (by rw[←A]);cases s:(j (r.opening t 40,l)).1.bad
   ·obtain⟨⟨o,Ae⟩,Al,Ao⟩:=b5 s;cases s4:(j (r.opening t 40,l)).1.seesOne t 41 41
    ·obtain⟨F,_⟩:=a93 w s4;refine⟨v,g,P,?_,(GoC.one q).trans M,X,fun _=> ?_,fun e=> ?_⟩
     ·show AtI t (Rd.closing t _ 41) v;unfold Rd.closing;rw[F];exact⟨w.pos,w.le⟩
     ·unfold a2r;cases D:(a0a t)[v]? with
      |none=>exact o.nd
      |some c=>
       simp only;cases z:dgB c
       ·rw[o.nx c D z];obtain⟨Aj,Ak⟩:=Ae c D;by_cases N:c=59
        ·subst N;refine b01 ?_;unfold Fm.paren Fm.top;rw[o.op,B];cases f.related<;>simp
        ·exact b2I Aj Ak N (fun e=>by subst e;exact a1M w s s4 D)
       ·exact o.dg c D z
     ·revert e
      show(Rd.closing t _ 41).bad=false→_;unfold Rd.closing;rw[F];intro e;cases e
    ·have y:=(a1r w s 41).mp s4;obtain⟨d1,d2,d3,_⟩:=a16 w s4;generalize u:({ g with op:=f.op,related:=f.related,st:=12 } :Fm)=g2;have S:a7t (a0a t) v g g2:=by
      refine⟨41,y,?_⟩;rw[o.nx 41 y (by decide)];have b:g.op=(if f.related then 69 else 101)::f.op:=by rw[o.op,B]
      cases hrel:f.related
      ·rw[hrel]at b;rw[b6f (by unfold Fm.top;rw[b];rfl),←u,b,hrel];rfl
      ·rw[hrel]at b;rw[b6d (by unfold Fm.top;rw[b];rfl),←u,b,hrel];rfl
     have p:g2.st=12:=by rw[←u]
     refine⟨v+1,g2,P,?_,((GoC.one q).trans M).trans (GoC.one S),X,fun e=> ?_,fun _=>⟨⟨⟨by rw[←u],?_,a6W (by rw[p];decide),fun d _ _=>b3N p _,fun d _ m=> ?_⟩,by rw[←u]⟩,Sg.pair Al a y (by decide),by omega⟩⟩
     ·show AtI t (Rd.closing t _ 41) (v+1);exact⟨d1.pos,d1.le⟩
     ·revert e
      show(Rd.closing t _ 41).bad=true→_;unfold Rd.closing;simp only;intro e;rw[d2]at e;cases e
     ·rw[←u];show g.body=f.body;rw[o.body,←A]
     ·rw[b3N p];exact b6I m
   ·--bad within
    have F:((j (r.opening t 40,l)).1.takeOne t 41 41).1=(j (r.opening t 40,l)).1:=a18 s 41 41;refine⟨v,g,P,?_,(GoC.one q).trans M,X,fun _=>b4 s,fun e=> ?_⟩
    ·show AtI t (Rd.closing t _ 41) v;unfold Rd.closing;rw[F];exact⟨w.pos,w.le⟩
    ·revert e
     show(Rd.closing t _ 41).bad=false→_;unfold Rd.closing;rw[F];simp only;intro e;rw[s]at e;cases e
  ·--no room
   have R:r.room.bad=true:=by unfold Rd.room;rw[n_ (by omega)]
   have C:r.opening t 40= { r.room with depth:=r.room.depth+1 } :=by unfold Rd.opening;rw[a18 R]
   have H:(r.opening t 40).bad=true:=by rw[C];exact R
   have Ah:j (r.opening t 40,l)=(r.opening t 40,l):=Af _ H;rw[Ah];have F:((r.opening t 40).takeOne t 41 41).1=r.opening t 40:=a18 H 41 41;refine⟨i,f,[],?_,GoC.refl _ _ _,by simp,fun _=>b39 T fun c O=> ?_,fun e=> ?_⟩
   ·show AtI t (Rd.closing t (r.opening t 40) 41) i;unfold Rd.closing;rw[F,C];exact⟨by show r.room.pos=_;rw[a4Y];exact h.pos,h.le⟩
   ·rw[a]at O;cases O;exact c3n h8
   ·revert e
    show(Rd.closing t (r.opening t 40) 41).bad=false→_;unfold Rd.closing;rw[F];simp only;intro e;rw[H]at e;cases e
theorem b8W(k:Nat):a09 (negs k)=0:=by
 induction k with
 |zero=>rfl
 |succ k ih=>simp[negs,a_4,a09]at ih⊢;exact ih
theorem a4F:∀(l:List UInt8),(a0a l).length≤l.length
 | []=>a_ _
 |c::r=>by
  have:=a4F r;unfold a0a
  split<;>simp<;>omega
def a9R(t:List UInt8)(n:Nat)(F:RP→RP)(T:UInt8→Bool):Prop:=∀(x:RP) (i:Nat) (f:Fm),AtI t x.1 i→x.1.bad=false→x.1.depth=f.op.length→Fit t (n+1) x→a5a (a0a t) i f→
 Out t x (F x) i f fun a g=>a7n (a0a t) a f g∧g.related=f.related∧∀c,(a0a t)[a]? =some c→T c=false
theorem c3p{t:List UInt8}{n:Nat}{a:RP→RP}(J:a7p t n a)(H:a3D t n a)(g:a4p a):a9R t n (a2C t a) (fun _=>false):=by
 intro x i f h I L o R;obtain⟨r,l⟩:=x;have X:=a4F t;obtain⟨S,F,q,s,u,v,k,m,w,y,z,b⟩:=b3L (t.length+1) r i f h I R (by omega);have c:=a7e (l:=l) (t.length+1) r o.le;have j:Adv t (r,l) ((a01 t (t.length+1) r).1,l):=⟨c.pos,c.le,by have:=c.pos;simp only at this⊢;omega,c.depth,c.bad⟩
 obtain⟨T,G,P,A,B,C,D,E⟩:=c0W J H g ((a01 t (t.length+1) r).1,l) S F q s (by rw[m];exact u.trans L) (j.fit o) k z;refine⟨T,G,P++negs (a01 t (t.length+1) r).2,A,v.trans B,?_,D,fun e=> ?_⟩
 ·show(a3b t a ((a01 t (t.length+1) r).1,l)).2++negs _=l++(P++negs _);rw[C];simp
 ·obtain⟨⟨d,U⟩,V,Y⟩:=E e;have M:=b.le;refine⟨⟨⟨d.op.trans m,d.body.trans w,d.nd,d.nx,d.dg⟩,U.trans y,fun _ _=>rfl⟩,?_,by omega⟩;refine b.cat V (by simp;omega) ?_ ?_ (.inr fun N=>k.pv (by omega))
  ·rw[a3Q,b8W];simp
  ·intro p O;rcases G_.mp O with h|h
   ·exact .inr h
   ·exact .inl h
theorem b2B{t:List UInt8}{a:RP→RP} :a4p (a2C t a):=fun x h=>b58 h
def b3b(t:List UInt8)(opf:Rd→Rd×Int)(S:UInt8→Bool):Prop:=∀(r:Rd) (i:Nat),AtI t r i→r.bad=false→
 (∃c,(a0a t)[i]? =some c∧S c=true∧AtI t (opf r).1 (i+1)∧(opf r).1.bad=false∧(opf r).1.depth=r.depth∧(opf r).2≠0∧(opf r).2≠2)∨(opf r=(r,0)∧∀c,(a0a t)[i]? =some c→S c=false)
theorem b1C{t:List UInt8}(a b:UInt8)(p q:Int)(n:p≠0∧p≠2)(o:q≠0∧q≠2):b3b t (fun r=>r.oper t a p b q) (fun c=>c==a||c==b):=by
 intro r i h d;unfold Rd.oper;simp only;cases l:r.seesOne t a a
 ·cases m:r.seesOne t b b
  ·right;rw[f_ (by decide),f_ (by decide)];refine⟨rfl,fun c s=> ?_⟩;have j:=a1M h d l;have k:=a1M h d m;rw[s]at j k;simp at j k;simp[j,k]
  ·left;simp only[D_,a_g,a_b];obtain⟨e,f,g,_⟩:=a16 h m;exact⟨b,(a1r h d b).mp m,by simp,e,f,g,o.1,o.2⟩
 ·left;simp only[a_b];obtain⟨e,f,g,_⟩:=a16 h l;exact⟨a,(a1r h d a).mp l,by simp,e,f,g,n.1,n.2⟩
def a9s(c:UInt8):Bool:=c==37||(c==42||c==47)
theorem b6q{t:List UInt8} :b3b t (fun r=>r.prodOper t) a9s:=by
 intro r i h d;unfold Rd.prodOper;simp only;cases f:r.seesOne t 37 37
 ·simp only[D_,a_g];have b:=a1M h d f;rcases b1C (t:=t) 42 47 6 7 (by decide) (by decide) r i h d with⟨c,e,a,m⟩|⟨e,a⟩
  ·exact .inl ⟨c,e,by simp only at a;unfold a9s;rw[a];simp,m⟩
  ·refine .inr ⟨e,fun c g=> ?_⟩;have:=a c g;simp only at this;rw[g]at b;simp at b;unfold a9s;rw[this];simp[b]
 ·left;simp only[a_b];obtain⟨j,k,l,_⟩:=a16 h f;exact⟨37,(a1r h d 37).mp f,by decide,j,k,l,by decide,by decide⟩
def a33(opf:Rd→Rd×Int)(F:RP→RP):Nat→RP→RP
 |0,x=>x
 |k+1,x=>if(opf x.1).2=0 then((opf x.1).1,x.2)else a33 opf F k ((F ((opf x.1).1,x.2)).1,(F ((opf x.1).1,x.2)).2++ [⟨(opf x.1).2,0⟩])
theorem b0G(t:List UInt8)(a:RP→RP):∀k x,a47 t a k x=a33 (fun r=>r.prodOper t) (a2C t a) k x
 |0,x=>rfl
 |k+1,x=>by
  unfold a47 a33;simp only
  split
  ·rfl
  ·exact b0G t a k _
theorem a60(t:List UInt8)(a:RP→RP):∀k x,a6s t a k x=a33 (fun r=>r.oper t 43 4 45 5) (a2Y t a) k x
 |0,x=>rfl
 |k+1,x=>by
  unfold a6s a33;simp only
  split
  ·rfl
  ·exact a60 t a k _
theorem c7u{c:UInt8}(h:opB c=true):dl c=0∧c≠59∧nmB c=false∧dgB c=false:=by
 simp[opB]at h;rcases h with(((rfl|rfl)|rfl)|rfl)|rfl<;>decide
theorem b5A{t:List UInt8}{n:Nat}{opf:Rd→Rd×Int}{F:RP→RP}{S T:UInt8→Bool}(hS:∀c,S c=true→opB c=true)(ho:b3b t opf S)(hF:a9R t n F T)(q:∀x,Fit t (n+1) x→Adv t x (F x))(E:a4p F)(v:∀r,r.bad=true→opf r=(r,0))
  (x0:RP) (z:Nat) (f:Fm):∀(k:Nat) (x:RP) (i:Nat) (g:Fm) (P:List Pt),AtI t x.1 i→x.1.bad=false→x.1.depth=f.op.length→Fit t (n+1) x→GoC (a0a t) z f i g→x.2=x0.2++P→Sg (a0a t) z i P→z<i→a7n (a0a t) i f g→g.related=f.related→(∀c,(a0a t)[i]? =some c→T c=false)→(a0a t).length-i<k→
  Out t x0 (a33 opf F k x) z f fun i' Y=>a7n (a0a t) i' f Y∧Y.related=f.related∧∀c,(a0a t)[i']? =some c→T c=false∧S c=false
 |0,x,i,g,P,h,hb,hd,hf,hgo,hx,hsg,hlt,hA,hr,hT,hk=>by omega
 |k+1,x,i,g,P,h,hb,hd,hf,hgo,hx,hsg,hlt,hA,hr,hT,hk=>by
  unfold a33;rcases ho x.1 i h hb with⟨c,l,N,B,k4,O,k6,k7⟩|⟨l,N⟩
  ·rw[f_ k6];have m:=hS c N;have b:=c7u m;have w:a7t (a0a t) i g { g with st:=10 } :=⟨c,l,by rw[hA.nx c l b.2.2.2];exact c3C m⟩
   have hu:a5a (a0a t) (i+1) { g with st:=10 } :=a9a rfl ⟨c,l,b.2.2.2⟩;have u:=(k_.mp l).1;have d:Adv t x ((opf x.1).1,x.2):=by
    have L:x.1.pos≤(opf x.1).1.pos:=by
     rw[h.pos,B.pos];have D:=(a2L t 0 i u).2.2.1;unfold a5p;rw[←D];exact K_ (b_z _) (a7O _ _).1
    have M:(opf x.1).1.pos≤t.length:=by
     rw[B.pos];by_cases H:i+1<(a0a t).length
     ·have:=(a2L t 0 (i+1) H).1;unfold a5p;omega
     ·rw[b0F (by omega)];exact a_ _
    exact⟨L,M,by simp only;omega,O,fun e=>by rw[hb]at e;cases e⟩
   obtain⟨i2,Z,C,U,V,X,c4,c5⟩:=hF ((opf x.1).1,x.2) (i+1) { g with st:=10 } B k4 (by rw[O,hd];simp only[hA.op]) (d.fit hf) hu;have a:=q ((opf x.1).1,x.2) (d.fit hf);cases j:(F ((opf x.1).1,x.2)).1.bad
   ·obtain⟨⟨A,q2,q3⟩,q4,q5⟩:=c5 j;have G:Sg (a0a t) i (i+1) [⟨(opf x.1).2,0⟩]:=Sg.byte l b.1 b.2.1 (fun e=>by rw[b.2.2.1]at e;cases e) (fun _=>k7);have s1:=hsg.cat G (R:=P++ [⟨(opf x.1).2,0⟩]) (by simp) (a3Q _ _) (fun p J=>G_.mp J) (.inl ⟨c,l,b.2.2.2⟩);have s:a09 [(⟨(opf x.1).2,0⟩:Pt)]=0:=by simp[a09,k7]
    have s2:=s1.cat q4 (R:=P++C++ [⟨(opf x.1).2,0⟩]) (by simp;omega) (by rw[a3Q,a3Q,a3Q,s];simp) (fun p J=>by
     rcases G_.mp J with h|h
     ·rcases G_.mp h with h|h
      ·exact .inl (G_.mpr (.inl h))
      ·exact .inr h
     ·exact .inl (G_.mpr (.inr h))) (.inr fun _=>⟨c,by simpa using l,b.2.2.2⟩)
    refine b5A hS ho hF q E v x0 z f k _ i2 Z (P++C++ [⟨(opf x.1).2,0⟩]) U j ?_ ?_ ((hgo.trans (GoC.one w)).trans V) ?_ s2 (by omega) ⟨A.op.trans hA.op,A.body.trans hA.body,A.nd,A.nx,A.dg⟩ (q2.trans hr) q3 (by omega)
    ·simp only;rw[a.depth,O];exact hd
    ·have o:=a.fit (d.fit hf);have I:=a.len;have Aa:=hf.len;have Ab:x.1.pos+1≤(opf x.1).1.pos:=by
      rw[h.pos,B.pos];have D:=(a2L t 0 i u).2.2.1;unfold a5p;rw[←D];exact(a7O _ _).1
     exact⟨o.le,by simp only[x_,B_,a_r]at I⊢;omega,o.d0,o.d9,o.db,o.fuel⟩
    ·rw[X,hx];simp
   ·have hL:∀k y,y.1.bad=true→a33 opf F k y=y:=by
     intro k y hy;cases k with
     |zero=>rfl
     |succ k=>unfold a33;rw[v y.1 hy];simp
    have e9:=hL k ((F ((opf x.1).1,x.2)).1,(F ((opf x.1).1,x.2)).2++ [(⟨(opf x.1).2,0⟩:Pt)]) j;rw[e9];refine⟨i2,Z,P++(C++ [⟨(opf x.1).2,0⟩]),U,(hgo.trans (GoC.one w)).trans V,?_,fun _=>c4 j,fun e=> ?_⟩
    ·simp only;rw[X,hx];simp
    ·simp only at e;rw[j]at e;cases e
  ·rw[l];simp only[a_b];exact⟨i,g,P,h,hgo,hx,fun e=>(by simp only at e;rw[hb]at e;cases e),fun _=>⟨⟨hA,hr,fun c hc=>⟨hT c hc,N c hc⟩⟩,hsg,hlt⟩⟩
theorem b3d{t:List UInt8}{n:Nat}{opf:Rd→Rd×Int}{F:RP→RP}{S T:UInt8→Bool}(U:∀c,S c=true→opB c=true)(X:b3b t opf S)(u:a9R t n F T)(d:∀x,Fit t (n+1) x→Adv t x (F x))(j:a4p F)(g:∀r,r.bad=true→opf r=(r,0)):
  a9R t n (fun x=>a33 opf F (t.length+1) (F x)) (fun c=>T c||S c):=by
 intro x i f h V w l Y;have hk:=a4F t;obtain⟨z,s,P,m,o,p,B,C⟩:=u x i f h V w l Y;have b:=d x l;cases a:(F x).1.bad
 ·obtain⟨⟨q1,q2,q3⟩,q4,q5⟩:=C a;obtain⟨i2,O,A,D,E,G,H,I⟩:=b5A U X u d j g x i f (t.length+1) (F x) z s P m a (by rw[b.depth];exact w) (b.fit l) o p q4 q5 q1 q2 q3 (by omega);refine⟨i2,O,A,D,E,G,H,fun e=> ?_⟩;obtain⟨⟨J,L,q⟩,M,N⟩:=I e;exact⟨⟨J,L,fun c v=>by simp only;rw[(q c v).1,(q c v).2];rfl⟩,M,N⟩
 ·have R:∀k y,y.1.bad=true→a33 opf F k y=y:=by
   intro k y Z;cases k with
   |zero=>rfl
   |succ k=>unfold a33;rw[g y.1 Z];simp
  show Out t x (a33 opf F (t.length+1) (F x)) i f _;rw[R _ _ a];exact⟨z,s,P,m,o,p,B,fun e=>(by rw[a]at e;cases e)⟩
theorem c2E{t:List UInt8}{n:Nat}{a:RP→RP}(g:a7p t n a)(d:a3D t n a)(b:a4p a):a9R t n (a2Y t a) a9s:=by
 have:=b3d (t:=t) (n:=n) (opf:=fun r=>r.prodOper t) (F:=a2C t a) (S:=a9s) (T:=fun _=>false) (fun c h=>by
  simp[a9s]at h;rcases h with rfl|rfl|rfl<;>decide) b6q (c3p g d b) (fun x o=>a8e d o) b2B (fun r h=>a7i h)
 intro x i f h e j l m;have k:=this x i f h e j l m;simp only[Bool.false_or]at k;unfold a2Y;rw[b0G];exact k
def c45(c:UInt8):Bool:=c==43||c==45
theorem b8k{t:List UInt8}{n:Nat}{a:RP→RP}(b:a7p t n a)(j:a3D t n a)(d:a4p a):a9R t n (a1E t a) opB:=by
 have:=b3d (t:=t) (n:=n) (opf:=fun r=>r.oper t 43 4 45 5) (F:=a2Y t a) (S:=c45) (T:=a9s) (fun c h=>by
  simp[c45]at h;rcases h with rfl|rfl<;>decide) (b1C 43 45 4 5 (by decide) (by decide)) (c2E b j d) (fun x v=>a79 j v) (fun x h=>b1M h) (fun r h=>a5n h _ _ _ _)
 intro x i f h p q s u;obtain⟨w,g,P,y,z,A,B,C⟩:=this x i f h p q s u;refine⟨w,g,P,?_,z,?_,?_,?_⟩
 ·unfold a1E;rw[a60];exact y
 ·unfold a1E;rw[a60];exact A
 ·unfold a1E;rw[a60];exact B
 ·unfold a1E;rw[a60];intro e;obtain⟨⟨k,l,m⟩,o⟩:=C e;refine⟨⟨k,l,fun c b=> ?_⟩,o⟩;have:=m c b;simp[a9s,c45]at this;simp[opB,this]
theorem c3U{t:List UInt8}{n:Nat}{a:RP→RP}(X:a7p t n a)(F:a3D t n a)(w:a4p a):a7p t (n+1) (a6L t a):=by
 intro x i f h hb Y H hu hr;obtain⟨k,A,P,y,D,E,c4,c5⟩:=b8k X F w x i f h hb Y H hu;have o:=a86 F H;unfold a6L;simp only;cases g:(a1E t a x).1.bad;case true=>
  rw[a5n g];simp only[a_b];exact⟨k,A,P,y,D,E,c4,fun e=>(by simp only at e;rw[g]at e;cases e)⟩
 case false=>
 obtain⟨⟨C,q2,q3⟩,q4,q5⟩:=c5 g;rcases b1C (t:=t) 60 61 9 10 (by decide) (by decide) (a1E t a x).1 k y g with⟨c,l,T,B,Z,U,k6,V⟩|⟨l,T⟩
 ·simp only at B Z U k6 V;rw[f_ k6];have q:c=60∨c=61:=by simpa using T
  have b:dgB c=false∧dl c=0∧c≠59∧nmB c=false:=by rcases q with rfl|rfl<;>decide
  have J:=(k_.mp l).1;generalize j:({ A with related:=true,st:=10 } :Fm)=z;have O:a7t (a0a t) k A z:=⟨c,l,by rw[C.nx c l b.1,←j];exact c1m q (q2.trans hr)⟩
  have S:a5a (a0a t) (k+1) z:=a9a (by rw[←j]) ⟨c,l,b.1⟩;have s:Adv t (a1E t a x) ((Rd.oper t (a1E t a x).1 60 9 61 10).1,(a1E t a x).2):=by
   have M:(a1E t a x).1.pos≤(Rd.oper t (a1E t a x).1 60 9 61 10).1.pos:=by
    rw[y.pos,B.pos];have h2:=(a2L t 0 k J).2.2.1;unfold a5p;rw[←h2];exact K_ (b_z _) (a7O _ _).1
   have N:(Rd.oper t (a1E t a x).1 60 9 61 10).1.pos≤t.length:=by
    rw[B.pos];by_cases I:k+1<(a0a t).length
    ·have:=(a2L t 0 (k+1) I).1;unfold a5p;omega
    ·rw[b0F (by omega)];exact a_ _
   exact⟨M,N,by simp only;omega,U,fun e=>by rw[g]at e;cases e⟩
  have r:z.op=f.op:=by rw[←j];exact C.op
  obtain⟨i2,g2,P2,d1,d2,d3,d4,d5⟩:=b8k X F w ((Rd.oper t (a1E t a x).1 60 9 61 10).1,(a1E t a x).2) (k+1) z B Z (by rw[r];simp only;rw[U,o.depth];exact Y) (s.fit (o.fit H)) S;refine⟨i2,g2,P++(P2++ [⟨(Rd.oper t (a1E t a x).1 60 9 61 10).2,0⟩]),d1,(D.trans (GoC.one O)).trans d2,?_,d4,fun e=> ?_⟩
  ·simp only;rw[d3,E];simp
  ·obtain⟨⟨u,e2,e3⟩,e4,e5⟩:=d5 e;have G:Sg (a0a t) k (k+1) [⟨(Rd.oper t (a1E t a x).1 60 9 61 10).2,0⟩]:=Sg.byte l b.2.1 b.2.2.1 (fun e=>by rw[b.2.2.2]at e;cases e) (fun _=>V);have v:a09 [(⟨(Rd.oper t (a1E t a x).1 60 9 61 10).2,0⟩:Pt)]=0:=by simp[a09,V]
   have s1:=q4.cat G (R:=P++ [⟨(Rd.oper t (a1E t a x).1 60 9 61 10).2,0⟩]) (by simp) (a3Q _ _) (fun p L=>G_.mp L) (.inl ⟨c,l,b.1⟩);refine⟨⟨⟨u.op.trans r,u.body.trans (by rw[←j];exact C.body),u.nd,u.nx,u.dg⟩,fun d m=>⟨e3 d m,fun _=>by rw[e2,←j]⟩⟩,?_,by omega⟩;refine s1.cat e4 (by simp;omega) (by rw[a3Q,a3Q,a3Q,v];simp) (fun p L=> ?_) (.inr fun _=>⟨c,by simpa using l,b.1⟩);rcases G_.mp L with h|h
   ·exact .inl (G_.mpr (.inl h))
   ·rcases G_.mp h with h|h
    ·exact .inr h
    ·exact .inl (G_.mpr (.inr h))
 ·simp only at l;rw[l];simp only[a_b];refine⟨k,A,P,y,D,E,fun e=>(by simp only at e;rw[g]at e;cases e),fun _=>⟨⟨C,fun d m=>⟨q3 d m,fun e=> ?_⟩⟩,q4,q5⟩⟩;have:=T d m;rcases e with rfl|rfl<;>simp at this
theorem b2L(t:List UInt8):∀n,a4p (a5G t n)
 |0=>fun x _=>rfl
 |n+1=>fun x h=>c3T h
theorem b4Y(t:List UInt8):∀n,a7p t n (a5G t n)
 |0=>fun x i f h b c a=>by have:=a.fuel;have:=a.d9;omega
 |n+1=>c3U (b4Y t n) (b0h t n) (b2L t n)
end Go.Proofs.YtdgmoiflahoihaaGreatDoor
