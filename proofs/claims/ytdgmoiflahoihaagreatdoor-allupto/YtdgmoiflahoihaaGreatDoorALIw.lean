import Derived.Test.YtdgmoiflahoihaaGreatDoorVFw

set_option linter.unusedSimpArgs false
set_option linter.unusedVariables false
set_option maxRecDepth 100000
set_option maxHeartbeats 8000000
namespace Go.Proofs.YtdgmoiflahoihaaGreatDoor
open Go.RowKit
abbrev Sl:=Option Nat×Nat
def slV(x:Sl):Value:= .slice (x.1.map fun g=>⟨g,0,none⟩) x.2 x.2
def a32(one:List Value):Nat→List Value
 |0=> []
 |n+1=>a32 one n++one
theorem a74(one:List Value):∀n,(a32 one n).length=n*one.length
 |0=>by simp[a32]
 |n+1=>by rw[a32,x_,a74 one n,b_d]
theorem b63(one:List Value)(j:Nat)(a:j<one.length):∀(n i:Nat),i<n→(a32 one n)[i*one.length+j]? =one[j]?
 |0,i,h=>absurd h (by omega)
 |n+1,i,h=>by
  have b:=a74 one n;rw[a32];by_cases e:i<n
  ·have:i*one.length+one.length≤n*one.length:=by rw[←b_d];exact a_H _ e
   rw[S_ (by omega)];exact b63 one j a n i e
  ·obtain rfl:i=n:=by omega
   rw[V_ (by omega),b,a_I]
def a5u(w:World)(t:TypeId)(one:Int→List Value)(k:Nat)(x:Sl):Prop:=
 (x.1=none∧x.2=0)∨∃g,x.1=some g∧x.2≤9223372036854775807∧w.heap[g]? =some (.cells (a32 (one (-1-(k:Int))) x.2).toArray t (0,0))
def a59(w:World)(t:TypeId)(one:Int→List Value)(L:List Sl):Prop:=∀k x,L[k]? =some x→a5u w t one k x
theorem a59.keep{w w':World}{t:TypeId}{one:Int→List Value}{L:List Sl}(h:a59 w t one L)(c:∀(g:Nat) (cs:Array Value) (b:Nat×Nat),w.heap[g]? =some (.cells cs t b)→w'.heap[g]? =w.heap[g]?):a59 w' t one L:=by
 intro k x f;rcases h k x f with e|⟨g,e,d,a⟩
 ·exact .inl e
 ·exact .inr ⟨g,e,d,(c g _ _ a).trans a⟩
theorem a59.more{w:World}{t:TypeId}{one:Int→List Value}{L:List Sl}{x:Sl}(h:a59 w t one L)(d:a5u w t one L.length x):a59 w t one (L++ [x]):=by
 intro k y a;by_cases e:k<L.length
 ·rw[S_ e]at a;exact h k y a
 ·rw[V_ (by omega)]at a;obtain⟨c,_⟩:=k_.mp a;simp at c;have b:k-L.length=0:=by omega
  rw[b]at a;obtain rfl:x=y:=by simpa using a
  rw[show k=L.length by omega];exact d
theorem a2g{w w':World}{a:Nat}{e:TypeId}{b:Nat}{v:Value}{n:Nat}{xs:List Value}(h:w.ownsRow a e b v n xs)(l:∀(g:Nat) (cs:Array Value) (j:Nat×Nat),w.heap[g]? =some (.cells cs e j)→w'.heap[g]? =w.heap[g]?):w'.ownsRow a e b v n xs:=by
 refine⟨h.1,?_⟩;rcases h.2 with e|⟨g,d,f,m,k,i,c⟩
 ·exact .inl e
 ·exact .inr ⟨g,d,f,m,k,(l g _ _ i).trans i,c⟩
def a8n(z:Int):List Value:= [.int .i64 0,.int .i64 z,.int .i64 0,.int .i64 0,.int .i64 0]
def a8l(z:Int):List Value:= [.int .i64 z,.int .i64 0,.int .i64 0,.int .i64 0]
def a8m(z:Int):List Value:= [.int .i64 z,.int .i64 0,.int .i64 0]
def a6u(w:World)(v:Value)(C:List Ic):Prop:=
 (v= .slice none 0 0∧C= [])∨∃g,v= .slice (some ⟨g,0,none⟩) C.length C.length∧w.heap[g]? =some (.cells (a0Q C).toArray 87 (0,0))
structure a2H(lo:Nat)(w:World)(b:Nat)(vl:Value)(NS CS LS:List Sl):Prop where
 low:lo≤b
 here:∃vN vC vL,w.heap[b]? =some (.cells #[vN,vC,vL,vl] 38 (0,0))∧w.ownsRow lo 51 1 vN NS.length (NS.map slV)∧w.ownsRow lo 36 1 vC CS.length (CS.map slV)∧w.ownsRow lo 82 1 vL LS.length (LS.map slV)
 nts:a59 w 61 a8n NS
 cds:a59 w 87 a8l CS
 lns:a59 w 89 a8m LS
theorem a2H.keep{lo:Nat}{w w':World}{b:Nat}{j:Value}{d c LS:List Sl}(h:a2H lo w b j d c LS)(o:B__ w w'):a2H lo w' b j d c LS:=by
 have a:∀(t:TypeId) (g:Nat) (e:Array Value) (f:Nat×Nat),w.heap[g]? =some (.cells e t f)→w'.heap[g]? =w.heap[g]? :=fun t g e f p=>o.block g (z_.mp p).1
 obtain⟨k,⟨x,u,v,i,s,q,r⟩,l,m,n⟩:=h;exact⟨k,⟨x,u,v,(a _ _ _ _ i).trans i,a2g s (a _),a2g q (a _),a2g r (a _)⟩,l.keep (a _),m.keep (a _),n.keep (a _)⟩
def b6H(v:Value)(b:TypeId)(w w':World):Prop:=∀(k:Nat) (t:TypeId) (cs:Array Value) (a:Nat×Nat),w.heap[k]? =some (.cells cs t a)→v.ownBlock≠some k→t≠b→t≠38→w'.heap[k]? =w.heap[k]?
theorem a6u.keep{w w':World}{v:Value}{C:List Ic}(h:a6u w v C)(c:∀(g:Nat) (cs:Array Value) (b:Nat×Nat),w.heap[g]? =some (.cells cs 87 b)→w'.heap[g]? =w.heap[g]?):a6u w' v C:=by
 rcases h with e|⟨g,e,a⟩
 ·exact .inl e
 ·exact .inr ⟨g,e,(c _ _ _ a).trans a⟩
theorem a6u.cells{w:World}{v:Value}{C:List Ic}(h:a6u w v C):∃b g a,v= .slice b C.length a∧a0D w b g 0 C:=by
 rcases h with⟨rfl,rfl⟩|⟨g,rfl,c⟩
 ·exact⟨none,0,0,rfl,fun i d=>absurd d (Nat.not_lt_zero _)⟩
 ·exact⟨some (a__ g 0),g,_,rfl,a7c (r:= []) (by rw[a_i];exact c)⟩
theorem a73{w:World}{g:Nat}{c d:Array Value}{t u:TypeId}{f e:Nat×Nat}(h:w.heap[g]? =some (.cells c t f))(k:w.heap[g]? =some (.cells d u e)):t=u:=by
 rw[h]at k;cases k;rfl
theorem b2T{lo b j n:Nat}{w k:World}{i:TypeId}{v x:Value}{o:Obj}{l:Array Value}{xs:List Value}(r:w.heap[b]? =some (.cells l 38 (0,0)))(u:w.ownsRow lo i 1 v n xs)(s:(w.alloc o).grownBy k v.ownBlock){t:TypeId}(p:t≠i)(q:t≠38)(g:Nat)(cs:Array Value)(m:Nat×Nat)(h:w.heap[g]? =some (.cells cs t m)):(k.setCell (a__ b j) x).heap[g]? =w.heap[g]? :=by
 have c:=(z_.mp h).1;have d:g≠b:=fun e=>q (by subst e;exact a73 h r)
 have f:some g≠v.ownBlock:=fun e=>by
  rcases u.2 with⟨rfl,_⟩|⟨y,_,_,rfl,_,a,_⟩
  ·cases e
  ·cases e;exact p (a73 h a)
 rw[o_ _ _ _ _ d,s.block g (by simp;omega) f,q_ _ _ _ c]
theorem a4J{lo b n:Nat}{w i:World}{h:TypeId}{v:Value}{o:Obj}{g:Array Value}{xs:List Value}(a:w.heap[b]? =some (.cells g 38 (0,0)))(l:w.ownsRow lo h 1 v n xs)(k:(w.alloc o).grownBy i v.ownBlock)(j:h≠38):i.heap[b]? =some (.cells g 38 (0,0)):=by
 have d:=(z_.mp a).1;have f:some b≠v.ownBlock:=fun e=>by
  rcases l.2 with⟨rfl,_⟩|⟨m,_,_,rfl,_,c,_⟩
  ·cases e
  ·cases e;exact j (a73 c a)
 rw[k.block b (by simp;omega) f,q_ _ _ _ d];exact a
theorem b4t{lo b j n:Nat}{c:World}{a:TypeId}{v u:Value}{d:Array Value}{xs:List Value}(i:c.heap[b]? =some (.cells d 38 (0,0)))(k:c.ownsRow lo a 1 v n xs)(f:a≠38):(c.setCell (a__ b j) u).ownsRow lo a 1 v n xs:=
 a2g k fun g l m h=>o_ _ _ _ _ fun e=>f (by subst e;exact a73 h i)
theorem b4s{lo b j n:Nat}{w c:World}{h:TypeId}{v u:Value}{o:Obj}{xs:List Value}(a:lo≤b)(f:lo≤w.heap.size)(g:w.ownsRow lo h 1 v n xs)(d:(w.alloc o).grownBy c v.ownBlock):Below lo w (c.setCell (a__ b j) u):=by
 refine v_ ((((g_ lo w).alloc f o)).grown d (by simp;omega) fun k e=> ?_) a u;exact(g.lt k e).1
theorem a98(w:World)(x:Sl)(t:TypeId):∀j u,[slV x][j]? =some u→(w.alloc (.cells #[slV x] t)).cell? (((a__ w.heap.size 0):Addr).add j)=some u:=by
 intro j u h
 match j,h with
 |0,h=>
  show(w.alloc (.cells #[slV x] t)).cell? (a__ w.heap.size (0+0))=_;rw[F_ _ _ _ _ _ _ (R_ w _)];simpa using h
 |j+1,h=>simp at h
theorem b4I{w:World}{lo n:Nat}{t:TypeId}{v:Value}{xs:List Value}(h:w.ownsRow lo t 1 v n xs):∃a c,v= .slice a n c:=by
 rcases h.2 with⟨rfl,e⟩|⟨g,b,_,rfl,_⟩
 ·exact⟨none,0,by rw[e]⟩
 ·exact⟨_,_,rfl⟩
theorem b25(cs z:List Value)(v:Value):(cs++z).set cs.length v=cs++z.set 0 v:=a35 cs z 0 v
def a9Q(w:World)(t:TypeId)(one:List Value)(g a i:Nat):Prop:=∃rest:List Value,rest.length=(a-i)*one.length∧w.heap[g]? =some (.cells (a32 one i++rest).toArray t (0,0))
theorem c51{w:World}{d:Option Addr}{g o:Nat}{l:List Ic}(e:a0D w d g o l):0<l.length→∃c,d=some c∧∀j v,(a0Q l)[j]? =some v→w.cell? (c.add j)=some v:=by
 intro t;obtain⟨s,_⟩:=e 0 t;have b:=a3W l;refine⟨_,s,fun j v a=> ?_⟩;have u:j<l.length*4:=by rw[←b];exact(k_.mp a).1
 obtain⟨_,x,f,i,k,m⟩:=e (j/4) (by omega);obtain⟨n,p,q,r⟩:=a6P l (j/4) (by omega);rw[Go.WideShapes.add_plain];rcases(show j=j/4*4∨j=j/4*4+1∨j=j/4*4+2∨j=j/4*4+3 by omega)with h|h|h|h
 ·rw[h]at a;rw[n]at a;rw[h];rw[←a];exact f
 ·rw[h]at a;rw[p]at a;rw[h];rw[←a];exact i
 ·rw[h]at a;rw[q]at a;rw[h];rw[←a];exact k
 ·rw[h]at a;rw[r]at a;rw[h];rw[←a];exact m
end Go.Proofs.YtdgmoiflahoihaaGreatDoor
