import Derived.Test.YtdgmoiflahoihaaGreatDoorCOverw
import Derived.Deep.RegionLaw
import Derived.Lib.SmallJoins
import Derived.Lib.OwnKind
import Derived.Laws.Rows

set_option linter.unusedSimpArgs false
set_option linter.unusedVariables false
set_option maxRecDepth 100000
set_option maxHeartbeats 8000000
namespace Go.Proofs.YtdgmoiflahoihaaGreatDoor
open Go.Proofs.Tryz
open Go.RowKit
theorem b37{P:Program}{p:Array Oper}{o:Oper}{a:Act}{w:World}{K:Act→World→Prop}{Q:Exit→Act→World→Prop}{E:Prop}
  (S:o.guard=none) (s x:Operand) (t:TypeId) (B:o.op=Op.call { callee:=Callee.builtin Builtin.append,args:= #[s,x],argTypes:= #[t,t] })
  (g:Nat) (e:TypeId) (i:TypeInfo) (z:Value) (b f:Nat) (G:P.underlying t=some (.slice e)) (H:P.info? e=some i) (I:i.zero=some z) (J:i.size=b) (L:i.bytes=f) (M:z.cells.size=b) (N:0<b)
  (v:Value) (n:Nat) (C:List Value) (U:a.eval s=v) (k:w.ownsRow g e b v n C)
  (y:Addr) (m c:Nat) (d:List Value) (X:a.eval x= .slice (some y) m c) (T:d.length=m*b) (R:∀j u,d[j]? =some u→w.cell? (y.add j)=some u) (A:∀u∈d,u.oneCell'=true)
  (D:n+m≤maxLen) (F:(n+m)*f≤140737488355328) (h:g≤w.heap.size)
  (O:∀r q,q.ownsRow g e b r (n+m) (C++d)→w.grownBy q v.ownBlock→K (a.put o.dst r) q):
  if Region.wanted o (yielded p a.tmps)=true then Oper.wp P o a w K Q else E:=by
 have V:Region.wanted o (yielded p a.tmps)=true:=by simp[Region.wanted,S]
 rw[n_ V];obtain⟨r,q,l,Y,Z,_⟩:=run_append_own (P:=P) w g t o.type e i z b f G H I J L M N v n C k y m c d T R A D F h;unfold Oper.wp;simp[execOp,B,resolve,invoke,builtin,U,X,l,Result.andThen];exact O r q Y Z
theorem c4g:(prog.info? 5).map (fun i=>(i.zero,i.size,i.bytes))=some (some (.int .u8 0),1,1):=by kernel_rfl
theorem c5X:(prog.info? 3).map (fun i=>(i.zero,i.size,i.bytes))=some (some (i_ 0),1,8):=by kernel_rfl
def a9g(c:UInt8):Value:= .int .u8 c.toNat
def b1q(n:Int):Value:= .int .i64 n
structure a9T(w:World)(b:Nat)(C:List UInt8)(A:List Int):Prop where
 here:∃vc va,w.cell? ⟨b,0,none⟩=some vc∧w.cell? ⟨b,1,none⟩=some va∧w.ownsRow (b+1) 5 1 vc C.length (C.map a9g)∧w.ownsRow (b+1) 3 1 va A.length (A.map b1q)
 fz:∀o,w.frozen? ⟨b,o,none⟩=false
 lt:b<w.heap.size
structure b6C(W w2:World)(b:Nat)(vc va:Value):Prop where
 c0:w2.cell? ⟨b,0,none⟩=some vc
 c1:w2.cell? ⟨b,1,none⟩=some va
 fz:∀o,w2.frozen? ⟨b,o,none⟩=false
 lt:b<w2.heap.size
 below:Below (b+1) W w2
theorem b4V{W d:World}{b:Nat}{vc va:Value}{c:Option Nat}(e:W.cell? (a__ b 0)=some vc)(g:W.cell? (a__ b 1)=some va)(f:∀o,W.frozen? (a__ b o)=false)
  (h:W.grownBy d c) (j:∀k,c=some k→b+1≤k):b6C W d b vc va:=by
 have i:b<W.heap.size:=b_p e;have a:Below (b+1) W d:=(g_ _ _).grown h (by omega) j;exact⟨(a.cell (p:=(a__ b 0)) (by simp)).trans e,(a.cell (p:=(a__ b 1)) (by simp)).trans g,fun o=>(a.frozen (p:=(a__ b o)) (by simp)).trans (f o),by have:=a.size;omega,a⟩
theorem b5N{w:World}{B n m l o:Nat}{e f:TypeId}{v u:Value}{xs p:List Value}(h:w.ownsRow B e l v n xs)(k:w.ownsRow B f o u m p)(a:e≠f):v.ownBlock=none∨v.ownBlock≠u.ownBlock:=by
 cases j:v.ownBlock with
 |none=>exact .inl rfl
 |some g=>
  refine .inr fun d=> ?_
  obtain⟨c,s,q⟩:=Lib.ownsRow_kind h g j;obtain⟨r,i,b⟩:=Lib.ownsRow_kind k g d.symm;rw[q]at b;cases b;exact a rfl
theorem c2I{e:World}{b:Nat}{C:List UInt8}{A:List Int}{c:UInt8}{vc va d:Value}{W:World}(j:b6C W e b vc va)
  (k:e.ownsRow (b+1) 5 1 d (C.length+1) (C.map a9g++ [a9g c])) (i:e.ownsRow (b+1) 3 1 va A.length (A.map b1q)):a9T (e.setCell (a__ b 0) d) b (C++ [c]) A:=by
 obtain⟨f,g,h,l,_⟩:=j;refine⟨⟨d,va,by simp[go_sem,f],by simp[go_sem,g],?_,?_⟩,fun o=>by simp[go_sem,h],by simpa using l⟩
 ·have:=a_d k (a:=(a__ b 0)) (by simp) d;simpa using this
 ·exact a_d i (a:=(a__ b 0)) (by simp) d
theorem c2H{d:World}{b:Nat}{C:List UInt8}{A:List Int}{n:Int}{vc va c:Value}{W:World}(h:b6C W d b vc va)
  (j:d.ownsRow (b+1) 3 1 c (A.length+1) (A.map b1q++ [b1q n])) (i:d.ownsRow (b+1) 5 1 vc C.length (C.map a9g)):a9T (d.setCell (a__ b 1) c) b C (A++ [n]):=by
 obtain⟨e,f,g,k,_⟩:=h;refine⟨⟨vc,c,by simp[go_sem,e],by simp[go_sem,f],?_,?_⟩,fun o=>by simp[go_sem,g],by simpa using k⟩
 ·exact a_d i (a:=(a__ b 1)) (by simp) c
 ·have:=a_d j (a:=(a__ b 1)) (by simp) c;simpa using this
theorem b9I(w:World)(v:Value)(t:TypeId):∀j u,[v][j]? =some u→(w.alloc (.cells #[v] t)).cell? (((a__ w.heap.size 0):Addr).add j)=some u:=cell_one_new w v t
theorem b7H(v:Value)(h:v.oneCell'=true):∀u∈ [v],u.oneCell'=true:=by
 intro u a;simp at a;rw[a];exact h
def a0a:List UInt8→List UInt8
 | []=> []
 |c::r=>if a12 c then a0a r else c::a0a r
def atL:List UInt8→Nat→List Int
 | [],_=> []
 |c::r,k=>if a12 c then atL r (k+1)else(k:Int)::atL r (k+1)
theorem c5y{w:World}{b:Nat}{C:List UInt8}{A:List Int}(h:a9T w b C A)(q:A.length=C.length)(t:C.length≤400):a0A w b C A:=by
 obtain⟨⟨y,x,p,j,f,e⟩,z,B⟩:=h;have s:∃l n a,y= .slice l C.length a∧∀i,∀h:i<C.length,l=some (a__ n 0)∧w.cell? (a__ n i)=some (.int .u8 C[i].toNat):=by
  rcases Joins.ownsRow_forms f with⟨rfl,o⟩|⟨g,a,rfl⟩
  ·exact⟨none,0,0,by rw[o],fun i h=>absurd h (by omega)⟩
  ·refine⟨some (a__ g 0),g,a,rfl,fun i h=>⟨rfl,?_⟩⟩;rw[f.cellAt i (by omega),List.getElem?_map,s_ h];rfl
 have r:∃k m a,x= .slice k A.length a∧∀i,∀h:i<A.length,k=some (a__ m 0)∧w.cell? (a__ m i)=some (i_ A[i]):=by
  rcases Joins.ownsRow_forms e with⟨rfl,o⟩|⟨g,a,rfl⟩
  ·exact⟨none,0,0,by rw[o],fun i h=>absurd h (by omega)⟩
  ·refine⟨some (a__ g 0),g,a,rfl,fun i h=>⟨rfl,?_⟩⟩;rw[e.cellAt i (by omega),List.getElem?_map,s_ h];rfl
 obtain⟨l,n,d,rfl,v⟩:=s;obtain⟨k,m,c,rfl,u⟩:=r;rw[q]at j;exact⟨t,q,l,k,n,m,d,c,p,j,v,u⟩
theorem c0C{s:ByteArray}{k:Nat}{C:List UInt8}(h:k<s.size)(a:a12 s[k]=true):C++a0a (s.data.toList.drop (k+1))=C++a0a (s.data.toList.drop k):=by
 rw[a6N s k h];simp[a0a,a]
theorem c3I{s:ByteArray}{k:Nat}{A:List Int}(h:k<s.size)(a:a12 s[k]=true):A++atL (s.data.toList.drop (k+1)) (k+1)=A++atL (s.data.toList.drop k) k:=by
 rw[a6N s k h];simp[atL,a]
theorem c17{s:ByteArray}{k:Nat}{C:List UInt8}(h:k<s.size)(a:a12 s[k]=false):(C++ [s[k]])++a0a (s.data.toList.drop (k+1))=C++a0a (s.data.toList.drop k):=by
 rw[a6N s k h];simp[a0a,a]
theorem c5x{s:ByteArray}{k:Nat}{A:List Int}(h:k<s.size)(a:a12 s[k]=false):(A++ [(k:Int)])++atL (s.data.toList.drop (k+1)) (k+1)=A++atL (s.data.toList.drop k) k:=by
 rw[a6N s k h];simp[atL,a]
theorem a81(s:ByteArray)(w:World)(hs:s.size≤400):
  Calls prog 44 #[.string s] w fun e w'=>e= .returned (.pointer (some (a__ w.heap.size 0)))∧B__ w w'∧a0A w' w.heap.size (a0a s.data.toList) (atL s.data.toList 0):=by
 obtain⟨i5,U,Ac,Z,R⟩:=info_parts c4g;obtain⟨i3,T,Ab,Y,P⟩:=info_parts c5X;go_enter func44,ntmps44
 go_wp2
 go_loopw [4] (fun x w'=>∃(k:Nat) (C:List UInt8) (A:List Int),x=i_ k∧k≤s.size∧a9T w' w.heap.size C A∧B__ w w'∧C.length≤k∧A.length≤k∧Hid (A.length=C.length)∧Hid (C++a0a (s.data.toList.drop k)=a0a s.data.toList)∧Hid (A++atL (s.data.toList.drop k) k=atL s.data.toList 0)) (fun x _=>s.size-(intOf x).toNat);case atStart=>
  exact⟨0,[],[],rfl,by omega,⟨⟨.slice none 0 0,.slice none 0 0,by simp[go_sem],by simp[go_sem],E_ ..,E_ ..⟩,fun o=>by simp[go_sem],by simp⟩,(g_ _ _).alloc (a_ _) _,by simp,by simp,rfl,rfl,rfl⟩
 case round=>
  obtain⟨k,C,A,rfl,hk,X,n,Af,Ae,u,M,J⟩:=hrel;obtain⟨⟨vc,va,l,j,f,h⟩,I,y⟩:=X;by_cases p:k<s.size
  ·cases m:a12 s[k];case true=>
    go_wp2_with (first|(go_at_call 76;refine(a9e _ _).mono ?_;rintro e w' ⟨rfl,rfl⟩));exact⟨⟨k+1,C,A,by go_num,by omega,⟨⟨vc,va,l,j,f,h⟩,I,y⟩,n,by omega,by omega,u,(c0C p m).trans M.out,(c3I p m).trans J.out⟩,by simp[intOf];omega⟩
   case false=>
    go_upto_region 7 with(first|(go_at_call 76;refine(a9e _ _).mono ?_;rintro e w' ⟨rfl,rfl⟩))
    go_cut []from 8 to 41 (fun wx=>a9T wx w.heap.size (C++ [s[k]]) A∧B__ w wx)
    case first=>
     go_region_law (refine b37 rfl (.tmp 24) (.tmp 28) 107 rfl (w.heap.size+1) 5 i5 (.int .u8 0) 1 1 underlying107 U Ac Z R rfl (by decide) vc C.length (C.map a9g) (by simp[Act.eval,Act.put]) (by exact(f.alloc _).drew) (a__ w'.heap.size 0) 1 1 [a9g s[k]] (by simp[Act.eval,Act.put]) rfl (by exact b9I w' (a9g s[k]) 5) (b7H _ rfl) (by unfold maxLen;omega) (by omega) (by simp;omega) ?_;intro v' w2 d c;have a:=b4V (b:=w.heap.size) (vc:=vc) (va:=va) (by exact(T_ _ _ _ y).trans l) (by exact(T_ _ _ _ y).trans j) (by exact fun o=>(a_3 _ _ _ y).trans (I o)) c (fun q V=>(f.lt q V).1);have D:=(h.alloc (.cells #[a9g s[k]] 5)).drew.kept c (b5N h f (by decide));have q0:=a.c0;have q1:=a.c1;have q2:=a.fz;obtain⟨g,N,rfl⟩:=Joins.ownsRow_form d (by omega))
     all_goals (go_wp2_with fail;go_meet)
     all_goals exact⟨c2I a d D,((n.alloc (a_K y) _).drew.trans (a.below.mono (b_z _))).setCell (a_ _) _⟩
    case rest=>
     obtain⟨⟨⟨Ad,H,G,F,t,i⟩,O,r⟩,S⟩:=hcut;clear l j f h I y n;go_wp2_with (at_builtin;refine b_i _ rfl (.tmp 36) (.tmp 38) 22 rfl (w.heap.size+1) 3 i3 (i_ 0) 1 8 underlying22 T Ab Y P rfl (by decide) H A.length (A.map b1q) (by rfl) (by exact i.alloc _) (a__ wc.heap.size 0) 1 1 [b1q k] (by rfl) rfl (by exact b9I wc (b1q k) 3) (b7H _ rfl) (by unfold maxLen;omega) (by omega) (by simp;omega) ?nxt);case nxt=>
      intro v' w2 d c _;have a:=b4V (b:=w.heap.size) (vc:=Ad) (va:=H) (by exact(T_ _ _ _ r).trans G) (by exact(T_ _ _ _ r).trans F) (by exact fun o=>(a_3 _ _ _ r).trans (O o)) c (fun q V=>(i.lt q V).1);have E:=(t.alloc (.cells #[b1q k] 3)).kept c (b5N t i (by decide));have q0:=a.c0;have q1:=a.c1;have q2:=a.fz;have v:=Joins.ownsRow_form d (by omega);obtain⟨g,N,Aa⟩:=v;subst Aa
      go_wp2
      exact⟨⟨k+1,C++ [s[k]],A++ [(k:Int)],by go_num,by omega,c2H a d E,((S.alloc (a_K r) _).trans (a.below.mono (b_z _))).setCell (a_ _) _,by simp;omega,by simp;omega,by show _=_;have:=u.out;simp;omega,(c17 p m).trans M.out,(c5x p m).trans J.out⟩,by simp[intOf];omega⟩
  ·have B:C=a0a s.data.toList:=by
    have:=M.out;rw[C_ (by simp;omega)]at this;simpa[a0a]using this
   have z:A=atL s.data.toList 0:=by
    have:=J.out;rw[C_ (by simp;omega)]at this;simpa[atL]using this
   have L:Hid (a0A wr w.heap.size (a0a s.data.toList) (atL s.data.toList 0)):=by
    have:=c5y ⟨⟨vc,va,l,j,f,h⟩,I,y⟩ u.out (by omega);rw[B,z]at this;exact this
   clear B z l j f h
   go_wp2
   go_ret;exact⟨rfl,n,L.out⟩
theorem b4o(m n e:Nat)(h:m<2^e)(f:n≤26)(d:e≤26):bits .and .i64 (m:Int) (wrap64 (2^n))=((m&&&2^n:Nat):Int):=by
 have a:2^n≤2^26:=a_n (by omega) f;have g:2^e≤2^26:=a_n (by omega) d;have c:((2^n:Nat):Int)=(2:Int)^n:=by simp
 have b:wrap64 (2^n)=((2^n:Nat):Int):=by
  rw[←IntWalk.i64_left,←c];generalize 2^n=q at a;exact b_j _ ⟨by omega,by omega⟩
 rw[b];exact a9E m (2^n) (by omega) (by omega)
theorem b70{a b:Bool}(h:a=b):Ending.returned (.bool a)= .returned (.bool b):=by rw[h]
theorem a6O(a b:Nat)(w:World)(c:a<16)(d:b<16):
  Calls prog 22 #[i_ a,i_ b] w fun e w'=>e= .returned (.bool (a1I a b))∧w'=w:=by
 have f:=a2u a b (by omega) (by omega);go_enter func22,ntmps22
 go_wp2
 go_ret;exact⟨b70 (by rw[M_];simp[a1I];omega),rfl⟩
def a23(n:Nat):Value:= .int .i64 n
def a0i(of:List Nat):Array Value:=(of.map a23).toArray
theorem b1T(of:List Nat)(names:Nat)(w:World)(g:of.length=26)(j:∀x∈of,x<16)(p:names<2^26):
  Calls prog 110 #[.agg (a0i of),i_ names] w fun e w'=>e= .returned (i_ (a2y of names))∧w'=w.alloc (.cells (a0i of) 69):=by
 have r:(a0i of).size=26:=by simp[a0i,g]
 go_enter func110,ntmps110
 go_wp2
 go_loop [5,6] (fun x y=>∃(k l:Nat),y=i_ k∧x=i_ l∧k≤26∧l<16∧Hid (a5t of names (26-k) l=a2y of names)) (fun _ y=>26-(intOf y).toNat)
 case atStart=>exact⟨0,0,rfl,rfl,by omega,by omega,rfl⟩
 case round=>
  obtain⟨k,l,rfl,rfl,u,o,i⟩:=hrel;by_cases c:k<26
  ·have b:(w.alloc (.cells (a0i of) 69)).cell? (a__ w.heap.size k)=some (i_ (of.getD k 0:Nat)):=by
    simp[go_sem,a0i,a23,g,c]
   have n:of.getD k 0<16:=by
    rw[t_,s_ (by omega)];exact j _ (P_ _)
   have a:=b4o names k 26 p (by omega) (by omega);by_cases d:names&&&2^k=0
   ·have f:Hid _:=c7h (of:=of) (l:=l) c d;rw[d]at a;have h:=h__ a;clear a d b;have s:(bits .and .i64 (names:Int) (wrap64 (2^k)) !=0)=false:=by rw[h.out];rfl
    go_wp2
    exact⟨⟨k+1,l,by go_num,rfl,by omega,o,f.out.trans i.out⟩,by simp[intOf];omega⟩
   ·have f:Hid _:=c6s (of:=of) (l:=l) c d;have s:(bits .and .i64 (names:Int) (wrap64 (2^k)) !=0)=true:=by rw[a];simpa using d
    have v:=a2u l (of.getD k 0) (by omega) (by omega);have m:=a34 o n;clear a d;generalize of.getD k 0=q at*
    go_wp2
    exact⟨⟨k+1,l|||q,by go_num,rfl,by omega,m,f.out.trans i.out⟩,by simp[intOf];omega⟩
  ·have f:Hid (l=a2y of names):=by
    have t:=i.out;rw[show 26-k=0 by omega]at t;exact t
   go_wp2
   go_ret;exact⟨a0R (by rw[f.out]),rfl⟩
def a0w(w:World)(B:Nat)(of:List Nat):Prop:=w.heap[B]? =some (.cells (a0i of) 69 (0,0))
theorem a0w.lt{w:World}{B:Nat}{of:List Nat}(h:a0w w B of):B<w.heap.size:=by
 unfold a0w at h;exact(z_.mp h).1
theorem a0w.below{w w':World}{B:Nat}{of:List Nat}(h:a0w w B of)(a:B__ w w'):a0w w' B of:=by
 have:=a.block B h.lt;unfold a0w at*;rw[this,h]
theorem a0w.new(w:World)(of:List Nat):a0w (w.alloc (.cells (a0i of) 69)) w.heap.size of:=by
 unfold a0w;show(w.heap.push _)[w.heap.size]? =_;simp
theorem a0w.cell{w:World}{B:Nat}{of:List Nat}(h:a0w w B of)(k:Nat)(a:k<of.length):w.cell? (a__ B k)=some (i_ (of.getD k 0:Nat)):=by
 rw[F_ w B k _ _ _ h];simp[a0i,a23,a]
theorem a0V:(prog.info? 69).map (fun i=>i.size)=some 26:=by kernel_rfl
theorem a7B{of:List Nat}(h:∀x∈of,x<16)(k:Nat):of.getD k 0<16:=by
 rw[t_];cases e:of[k]? with
 |none=>simp
 |some x=>exact h x (a_Q e)
theorem c1C(F:Nat):∀(b lo hi g:Nat) (r:Int) (C:List UInt8) (A:List Int) (of:List Nat) (w:World) (hb:a0A w b C A) (AB:of.length=26) (L:∀x∈of,x<16) (hg:g<2^26) (ho:a2D C A of F lo hi g=some r) (AS:lo≤500) (A1:hi≤500),
  Calls prog 75 #[.pointer (some (a__ b 0)),.agg (a0i of),i_ lo,i_ hi,i_ g] w fun x w'=>x= .returned (i_ r)∧B__ w w':=by
 induction F using Nat.strongRecOn with
 |ind F ih=>
 intro b lo hi g r C A of w hb AB L hg ho AS A1;have IH:Hid (∀m,m<F→_):=ih;have HB:Hid (a0A w b C A):=hb;have R:Hid (of.length=26):=AB;have HO:Hid (a2D C A of F lo hi g=some r):=ho;have hC:=hb.small;have Ac:(a0i of).size=26:=by simp[a0i,AB]
 clear ih hb ho AB;go_enter func75,ntmps75
 go_wp2
 go_loopw [11] (fun x w'=>∃(k f:Nat),x=i_ k∧k≤500∧f≤F∧a0A w' b C A∧a0w w' w.heap.size of∧B__ w w'∧Hid (a2D C A of f k hi g=some r)) (fun x w'=>500-(intOf x).toNat);case atStart=>exact⟨lo,F,rfl,AS,a_ _,HB.out.below ((g_ _ _).alloc (a_ _) _),a0w.new w of,(g_ _ _).alloc (a_ _) _,HO⟩
 case round=>
  obtain⟨k,f,rfl,hk,hf,AL,AM,AA,HD⟩:=hrel;by_cases A2:k<hi
  ·obtain⟨f',⟨Ah,Ab,Au,At⟩,t,o,ok,rfl,AW,AI,Az,AO,AN,H,AU,AF⟩:=c0n HD.out A2;have AR:=a2A Az;have Bf:=a07 Az;have Bg:=a2z Az;have AG:Hid _:=H AR;have HE:Hid (a1K C k=some ⟨Ah,Ab,Au,At⟩):=AW;have HT:Hid (a2b C k=some t):=AI;have HV:Hid (a0W C k=some o):=Az;have Aa:Hid (ok=false→A[k]? =some r):=AU;have HY:Hid (ok=true→_):=AF;have j:Hid (a0A wr b C A):=AL;have l:Hid (a0w wr w.heap.size of):=AM;have Af:=b1z C Au At;obtain⟨b1,b2,b3,b4⟩:=a72 AI hC;clear H AW AI Az AU AF AL AM;simp only at AO AN HY AG;generalize AQ:a1F C Au At=O at*;have AZ:Hid (a1F C Au At=O):=AQ;clear AQ;go_upto_region 6 with(first|(go_at_call 79;refine(a82 b k ⟨Ah,Ab,Au,At⟩ C A _ j.out HE.out).mono ?_;rintro P w' ⟨rfl,rfl⟩)|(go_at_call 109;refine(b5H b Au At C A _ j.out AO AN).mono ?_;rintro P w' ⟨rfl,rfl⟩;rw[AZ.out]));have hE:=b9Y (of:=of) O L;have hG:=b9Y (of:=of) g L;generalize AJ:a2y of O=E at*;generalize AK:a2y of g=G at*;have AX:Hid (a2y of O=E):=AJ;have AY:Hid (a2y of g=G):=AK;clear AJ AK
   go_cut [17]from 26 to 123 (fun x wx=>x=i_ E∧a0A wx b C A∧a0w wx w.heap.size of∧B__ w wx)
   case first=>
    go_wp2_with (first|(refine a_l rfl 69 (.tmp 6) rfl w.heap.size rfl 69 (a0i of) (0,0) _ l.out underlying69 rfl (by rw[a0V,Ac]) ?_)|(go_at_call 110;refine(b1T of _ _ R.out L (by assumption)).mono ?_;rintro P w1 ⟨rfl,rfl⟩));rw[AX.out];go_wp2_with fail
    go_meet
    have Ae:B__ w' (w'.alloc (.cells (a0i of) 69)):=(g_ _ _).alloc (a_ _) _;exact⟨rfl,j.out.below Ae,l.out.below Ae,AA.trans (Ae.mono (by have:=AA.size;omega))⟩
   case rest=>
   obtain⟨rfl,AC,AE,Ax⟩:=hcut;clear j l AA;have j:Hid (a0A wc b C A):=AC;have l:Hid (a0w wc w.heap.size of):=AE;clear AC AE;go_upto_region 7 with fail
   go_cut [18]from 26 to 123 (fun x wx=>x=i_ G∧a0A wx b C A∧a0w wx w.heap.size of∧B__ w wx)
   case first=>
    go_wp2_with (first|(refine a_l rfl 69 (.tmp 6) rfl w.heap.size rfl 69 (a0i of) (0,0) _ l.out underlying69 rfl (by rw[a0V,Ac]) ?_)|(go_at_call 110;refine(b1T of _ _ R.out L (by assumption)).mono ?_;rintro P w1 ⟨rfl,rfl⟩));rw[AY.out];go_wp2_with fail
    go_meet
    have Ae:B__ wc (wc.alloc (.cells (a0i of) 69)):=(g_ _ _).alloc (a_ _) _;exact⟨rfl,j.out.below Ae,l.out.below Ae,Ax.trans (Ae.mono (by have:=Ax.size;omega))⟩
   case rest=>
   obtain⟨rfl,AD,Ay,I⟩:=hcut;clear j l Ax;have j:Hid (a0A wc b C A):=AD;have l:Hid (a0w wc w.heap.size of):=Ay;obtain⟨_,Bb,ac,aa,bc,ba,A8,A7,h0,h1,hc,ha⟩:=AD;obtain⟨rfl,Bd⟩:=hc k AR;have Be:=a2u g O (by omega) (by omega);have Bc:=a2u E G (by omega) (by omega);have A9:=a34 hE hG;have M:=fun q hq=>a0w.cell Ay q hq
   have H:=AG.out;simp only[a9Y]at H;clear AG Ay;by_cases Aq:C[k]=62
   ·have A5:((C[k].toNat:Int)==62)=true:=a2O (b:=62) Aq;rw[n_ Aq]at H;by_cases N:0≤Ab∧Ab<16
    ·rw[n_ N]at H;obtain⟨lb,rfl⟩:=a_C N.1;have Ag:a1I (E|||G) lb=ok:=by simpa using H
     have Ao:lb<16:=by omega
     clear H Aq N M;cases ok;case false=>
      have hA:=Aa.out rfl;obtain⟨Ar,Ad⟩:=k_.mp hA;obtain⟨rfl,AH⟩:=ha k Ar;have Ap:Hid (A[k]=r):=Ad;clear hA Ad HY Aa;go_wp2_with (first|(go_at_call 22;refine(a6O (E|||G) lb _ (by omega) (by omega)).mono ?_;rintro P w' ⟨rfl,rfl⟩));go_ret;exact⟨a0R Ap.out,I⟩
     case true=>
      obtain⟨x,hx,V,X⟩:=HY.out rfl;have HX:=h__ hx;have S:=h__ V;have T:=h__ X;clear hx V X HY Aa;go_wp2_with (first|(go_at_call 22;refine(a6O (E|||G) lb _ (by omega) (by omega)).mono ?_;rintro P w' ⟨rfl,rfl⟩)|(go_at_call 78;refine(a3O b k t C A _ j.out HT.out).mono ?_;rintro P w' ⟨rfl,rfl⟩)|(refine a_l rfl 69 (.tmp 6) rfl w.heap.size rfl 69 (a0i of) (0,0) _ l.out underlying69 rfl (by rw[a0V,Ac]) ?_));refine(IH.out f' (by omega) b t.p t.q (g|||O) x C A of _ j.out R.out L (a5e hg Af) HX.out b1 b2).mono ?_;rintro P w1 ⟨rfl,u⟩;have z:=j.out.below u;have B:=l.out.below u;have D:=I.trans (u.mono I.size);clear j l I;have j:Hid (a0A w1 b C A):=z;have l:Hid (a0w w1 w.heap.size of):=B;clear z B u;by_cases Am:x<0
      ·obtain⟨y,hy,Y,Z⟩:=T.out Am;have Ak:=h__ hy;have Ai:=h__ Y;have Aj:=h__ Z;clear hy Y Z T S;go_wp2_with (first|(refine a_l rfl 69 (.tmp 6) rfl w.heap.size rfl 69 (a0i of) (0,0) _ l.out underlying69 rfl (by rw[a0V,Ac]) ?_));refine(IH.out f' (by omega) b t.r t.s (g|||O) y C A of _ j.out R.out L (a5e hg Af) Ak.out b3 b4).mono ?_;rintro P w2 ⟨rfl,u⟩;have z:=j.out.below u;have B:=l.out.below u;have J:=D.trans (u.mono D.size);clear j l D;have j:Hid (a0A w2 b C A):=z;have l:Hid (a0w w2 w.heap.size of):=B;clear z B u;by_cases An:y<0
       ·have U:Hid _:=Aj.out An;go_wp2_with fail;refine(a0Z b k o C A _ j.out HV.out).mono ?_;rintro P w3 ⟨rfl,Al⟩;subst Al;go_wp2_with fail;exact⟨⟨o,f',rfl,by omega,by omega,j.out,l.out,J,U⟩,by simp[intOf];omega⟩
       ·have U:Hid _:=Ai.out (by omega);go_wp2_with fail;go_ret;exact⟨a0R U.out,J⟩
      ·have U:Hid _:=S.out (by omega);go_wp2_with fail;go_ret;exact⟨a0R U.out,D⟩
    ·rw[f_ N]at H;cases H
   have A5:((C[k].toNat:Int)==62)=false:=a1e (b:=62) Aq;rw[f_ Aq]at H;by_cases As:C[k]=94
   ·have A6:((C[k].toNat:Int)==94)=true:=a2O (b:=94) As;rw[n_ As]at H;by_cases N:0≤Ab∧Ab<16∧0≤Ah∧Ah<26
    ·rw[n_ N]at H;obtain⟨lb,rfl⟩:=a_C N.1;obtain⟨nm,rfl⟩:=a_C N.2.2.1;have Ag:(a1I G lb&&a1I lb (of.getD nm 0))=ok:=by simpa using H
     have Ao:lb<16:=by omega
     have AT:nm<26:=by omega
     have A0:=M nm (by rw[R.out];omega);have hq:=a7B L nm;generalize of.getD nm 0=q at*;clear H As Aq N M;cases AP:a1I G lb
     ·have AV:ok=false:=by rw[←Ag,AP];rfl
      subst AV;clear Ag;have hA:=Aa.out rfl;obtain⟨Ar,Ad⟩:=k_.mp hA;obtain⟨rfl,AH⟩:=ha k Ar;have Ap:Hid (A[k]=r):=Ad;clear hA Ad HY Aa;go_wp2_with (first|(go_at_call 22;refine(a6O G lb _ (by omega) (by omega)).mono ?_;rintro P w' ⟨rfl,rfl⟩));go_ret;exact⟨a0R Ap.out,I⟩
     ·have Ba:a1I lb q=ok:=by rw[←Ag,AP];rfl
      clear Ag;cases ok;case false=>
       have hA:=Aa.out rfl;obtain⟨Ar,Ad⟩:=k_.mp hA;obtain⟨rfl,AH⟩:=ha k Ar;have Ap:Hid (A[k]=r):=Ad;clear hA Ad HY Aa;go_wp2_with (first|(go_at_call 22;refine(a6O _ _ _ ?_ ?_).mono ?_;(first|exact hG|exact Ao);(first|exact hq|exact Ao);rintro P w' ⟨rfl,rfl⟩));go_ret;exact⟨a0R Ap.out,I⟩
      case true=>
       obtain⟨x,hx,V,X⟩:=HY.out rfl;have HX:=h__ hx;have S:=h__ V;have T:=h__ X;clear hx V X HY Aa;go_wp2_with (first|(go_at_call 22;refine(a6O _ _ _ ?_ ?_).mono ?_;(first|exact hG|exact Ao);(first|exact hq|exact Ao);rintro P w' ⟨rfl,rfl⟩)|(go_at_call 78;refine(a3O b k t C A _ j.out HT.out).mono ?_;rintro P w' ⟨rfl,rfl⟩)|(refine a_l rfl 69 (.tmp 6) rfl w.heap.size rfl 69 (a0i of) (0,0) _ l.out underlying69 rfl (by rw[a0V,Ac]) ?_));refine(IH.out f' (by omega) b t.p t.q (g|||O) x C A of _ j.out R.out L (a5e hg Af) HX.out b1 b2).mono ?_;rintro P w1 ⟨rfl,u⟩;have z:=j.out.below u;have B:=l.out.below u;have D:=I.trans (u.mono I.size);clear j l I;have j:Hid (a0A w1 b C A):=z;have l:Hid (a0w w1 w.heap.size of):=B;clear z B u;by_cases Am:x<0
       ·obtain⟨y,hy,Y,Z⟩:=T.out Am;have Ak:=h__ hy;have Ai:=h__ Y;have Aj:=h__ Z;clear hy Y Z T S;go_wp2_with (first|(refine a_l rfl 69 (.tmp 6) rfl w.heap.size rfl 69 (a0i of) (0,0) _ l.out underlying69 rfl (by rw[a0V,Ac]) ?_));refine(IH.out f' (by omega) b t.r t.s (g|||O) y C A of _ j.out R.out L (a5e hg Af) Ak.out b3 b4).mono ?_;rintro P w2 ⟨rfl,u⟩;have z:=j.out.below u;have B:=l.out.below u;have J:=D.trans (u.mono D.size);clear j l D;have j:Hid (a0A w2 b C A):=z;have l:Hid (a0w w2 w.heap.size of):=B;clear z B u;by_cases An:y<0
        ·have U:Hid _:=Aj.out An;go_wp2_with fail;refine(a0Z b k o C A _ j.out HV.out).mono ?_;rintro P w3 ⟨rfl,Al⟩;subst Al;go_wp2_with fail;exact⟨⟨o,f',rfl,by omega,by omega,j.out,l.out,J,U⟩,by simp[intOf];omega⟩
        ·have U:Hid _:=Ai.out (by omega);go_wp2_with fail;go_ret;exact⟨a0R U.out,J⟩
       ·have U:Hid _:=S.out (by omega);go_wp2_with fail;go_ret;exact⟨a0R U.out,D⟩
    ·rw[f_ N]at H;cases H
   have A6:((C[k].toNat:Int)==94)=false:=a1e (b:=94) As;rw[f_ As]at H;by_cases Av:C[k]=40
   ·have A3:((C[k].toNat:Int)==40)=true:=a2O (b:=40) Av;rw[n_ (.inl Av)]at H;have Ag:true=ok:=by simpa using H
    subst Ag;clear H M;obtain⟨x,hx,V,X⟩:=HY.out rfl;have HX:=h__ hx;have S:=h__ V;have T:=h__ X;clear hx V X HY Aa;go_wp2_with (first|(go_at_call 78;refine(a3O b k t C A _ j.out HT.out).mono ?_;rintro P w' ⟨rfl,rfl⟩)|(refine a_l rfl 69 (.tmp 6) rfl w.heap.size rfl 69 (a0i of) (0,0) _ l.out underlying69 rfl (by rw[a0V,Ac]) ?_));refine(IH.out f' (by omega) b t.p t.q (g|||O) x C A of _ j.out R.out L (a5e hg Af) HX.out b1 b2).mono ?_;rintro P w1 ⟨rfl,u⟩;have z:=j.out.below u;have B:=l.out.below u;have D:=I.trans (u.mono I.size);clear j l I;have j:Hid (a0A w1 b C A):=z;have l:Hid (a0w w1 w.heap.size of):=B;clear z B u;by_cases Am:x<0
    ·obtain⟨y,hy,Y,Z⟩:=T.out Am;have Ak:=h__ hy;have Ai:=h__ Y;have Aj:=h__ Z;clear hy Y Z T S;go_wp2_with (first|(refine a_l rfl 69 (.tmp 6) rfl w.heap.size rfl 69 (a0i of) (0,0) _ l.out underlying69 rfl (by rw[a0V,Ac]) ?_));refine(IH.out f' (by omega) b t.r t.s (g|||O) y C A of _ j.out R.out L (a5e hg Af) Ak.out b3 b4).mono ?_;rintro P w2 ⟨rfl,u⟩;have z:=j.out.below u;have B:=l.out.below u;have J:=D.trans (u.mono D.size);clear j l D;have j:Hid (a0A w2 b C A):=z;have l:Hid (a0w w2 w.heap.size of):=B;clear z B u;by_cases An:y<0
     ·have U:Hid _:=Aj.out An;go_wp2_with fail;refine(a0Z b k o C A _ j.out HV.out).mono ?_;rintro P w3 ⟨rfl,Al⟩;subst Al;go_wp2_with fail;exact⟨⟨o,f',rfl,by omega,by omega,j.out,l.out,J,U⟩,by simp[intOf];omega⟩
     ·have U:Hid _:=Ai.out (by omega);go_wp2_with fail;go_ret;exact⟨a0R U.out,J⟩
    ·have U:Hid _:=S.out (by omega);go_wp2_with fail;go_ret;exact⟨a0R U.out,D⟩
   have A3:((C[k].toNat:Int)==40)=false:=a1e (b:=40) Av;by_cases Aw:C[k]=42
   ·have A4:((C[k].toNat:Int)==42)=true:=a2O (b:=42) Aw;rw[n_ (.inr Aw)]at H;have Ag:true=ok:=by simpa using H
    subst Ag;clear H M;obtain⟨x,hx,V,X⟩:=HY.out rfl;have HX:=h__ hx;have S:=h__ V;have T:=h__ X;clear hx V X HY Aa;go_wp2_with (first|(go_at_call 78;refine(a3O b k t C A _ j.out HT.out).mono ?_;rintro P w' ⟨rfl,rfl⟩)|(refine a_l rfl 69 (.tmp 6) rfl w.heap.size rfl 69 (a0i of) (0,0) _ l.out underlying69 rfl (by rw[a0V,Ac]) ?_));refine(IH.out f' (by omega) b t.p t.q (g|||O) x C A of _ j.out R.out L (a5e hg Af) HX.out b1 b2).mono ?_;rintro P w1 ⟨rfl,u⟩;have z:=j.out.below u;have B:=l.out.below u;have D:=I.trans (u.mono I.size);clear j l I;have j:Hid (a0A w1 b C A):=z;have l:Hid (a0w w1 w.heap.size of):=B;clear z B u;by_cases Am:x<0
    ·obtain⟨y,hy,Y,Z⟩:=T.out Am;have Ak:=h__ hy;have Ai:=h__ Y;have Aj:=h__ Z;clear hy Y Z T S;go_wp2_with (first|(refine a_l rfl 69 (.tmp 6) rfl w.heap.size rfl 69 (a0i of) (0,0) _ l.out underlying69 rfl (by rw[a0V,Ac]) ?_));refine(IH.out f' (by omega) b t.r t.s (g|||O) y C A of _ j.out R.out L (a5e hg Af) Ak.out b3 b4).mono ?_;rintro P w2 ⟨rfl,u⟩;have z:=j.out.below u;have B:=l.out.below u;have J:=D.trans (u.mono D.size);clear j l D;have j:Hid (a0A w2 b C A):=z;have l:Hid (a0w w2 w.heap.size of):=B;clear z B u;by_cases An:y<0
     ·have U:Hid _:=Aj.out An;go_wp2_with fail;refine(a0Z b k o C A _ j.out HV.out).mono ?_;rintro P w3 ⟨rfl,Al⟩;subst Al;go_wp2_with fail;exact⟨⟨o,f',rfl,by omega,by omega,j.out,l.out,J,U⟩,by simp[intOf];omega⟩
     ·have U:Hid _:=Ai.out (by omega);go_wp2_with fail;go_ret;exact⟨a0R U.out,J⟩
    ·have U:Hid _:=S.out (by omega);go_wp2_with fail;go_ret;exact⟨a0R U.out,D⟩
   have A4:((C[k].toNat:Int)==42)=false:=a1e (b:=42) Aw;rw[f_ (fun h=>h.elim Av Aw)]at H;by_cases N:0≤Ah∧Ah<26
   ·rw[n_ N]at H;obtain⟨nm,rfl⟩:=a_C N.1;have Ag:a1I (E|||G) (of.getD nm 0)=ok:=by simpa using H
    have AT:nm<26:=by omega
    have A0:=M nm (by rw[R.out];omega);have hq:=a7B L nm;generalize of.getD nm 0=q at*;clear H As Aq Av Aw N M;cases ok;case false=>
     have hA:=Aa.out rfl;obtain⟨Ar,Ad⟩:=k_.mp hA;obtain⟨rfl,AH⟩:=ha k Ar;have Ap:Hid (A[k]=r):=Ad;clear hA Ad HY Aa;go_wp2_with (first|(go_at_call 22;refine(a6O (E|||G) q _ (by omega) (by omega)).mono ?_;rintro P w' ⟨rfl,rfl⟩));go_ret;exact⟨a0R Ap.out,I⟩
    case true=>
     obtain⟨x,hx,V,X⟩:=HY.out rfl;have HX:=h__ hx;have S:=h__ V;have T:=h__ X;clear hx V X HY Aa;go_wp2_with (first|(go_at_call 22;refine(a6O (E|||G) q _ (by omega) (by omega)).mono ?_;rintro P w' ⟨rfl,rfl⟩)|(go_at_call 78;refine(a3O b k t C A _ j.out HT.out).mono ?_;rintro P w' ⟨rfl,rfl⟩)|(refine a_l rfl 69 (.tmp 6) rfl w.heap.size rfl 69 (a0i of) (0,0) _ l.out underlying69 rfl (by rw[a0V,Ac]) ?_));refine(IH.out f' (by omega) b t.p t.q (g|||O) x C A of _ j.out R.out L (a5e hg Af) HX.out b1 b2).mono ?_;rintro P w1 ⟨rfl,u⟩;have z:=j.out.below u;have B:=l.out.below u;have D:=I.trans (u.mono I.size);clear j l I;have j:Hid (a0A w1 b C A):=z;have l:Hid (a0w w1 w.heap.size of):=B;clear z B u;by_cases Am:x<0
     ·obtain⟨y,hy,Y,Z⟩:=T.out Am;have Ak:=h__ hy;have Ai:=h__ Y;have Aj:=h__ Z;clear hy Y Z T S;go_wp2_with (first|(refine a_l rfl 69 (.tmp 6) rfl w.heap.size rfl 69 (a0i of) (0,0) _ l.out underlying69 rfl (by rw[a0V,Ac]) ?_));refine(IH.out f' (by omega) b t.r t.s (g|||O) y C A of _ j.out R.out L (a5e hg Af) Ak.out b3 b4).mono ?_;rintro P w2 ⟨rfl,u⟩;have z:=j.out.below u;have B:=l.out.below u;have J:=D.trans (u.mono D.size);clear j l D;have j:Hid (a0A w2 b C A):=z;have l:Hid (a0w w2 w.heap.size of):=B;clear z B u;by_cases An:y<0
      ·have U:Hid _:=Aj.out An;go_wp2_with fail;refine(a0Z b k o C A _ j.out HV.out).mono ?_;rintro P w3 ⟨rfl,Al⟩;subst Al;go_wp2_with fail;exact⟨⟨o,f',rfl,by omega,by omega,j.out,l.out,J,U⟩,by simp[intOf];omega⟩
      ·have U:Hid _:=Ai.out (by omega);go_wp2_with fail;go_ret;exact⟨a0R U.out,J⟩
     ·have U:Hid _:=S.out (by omega);go_wp2_with fail;go_ret;exact⟨a0R U.out,D⟩
   ·rw[f_ N]at H;cases H
  ·have HF:Hid (-1=r):=c1D HD.out (by omega)
   go_wp2
   go_ret;exact⟨a0R HF.out,AA⟩
end Go.Proofs.YtdgmoiflahoihaaGreatDoor
