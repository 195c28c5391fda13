import Derived.Test.YtdgmoiflahoihaaGreatDoorPEvw
import Derived.Laws.ResultCell

set_option linter.unusedSimpArgs false
set_option linter.unusedVariables false
set_option maxRecDepth 100000
set_option maxHeartbeats 8000000
namespace Go.Proofs.YtdgmoiflahoihaaGreatDoor
open Go.Proofs.Tryz
open Go.RowKit
theorem a6r{P:Program}{c:Func}{p u:Tmp}{b:TypeId}(h:c.results= #[.cell p b,.tmp u])(a:Array Value)(w:World)(g:Nat)(cs:List Value)(d:TypeDesc)(x:Value)
  (j:a.getD p undef= .pointer (some (a__ g 0))) (l:a.getD u undef=x) (e:w.rangeAt g 0 cs)
  (k:P.underlying b=some d) (f:d.isRow=true) (hi:(P.info? b).map (·.size)=some cs.length):
  (results c a).run P w= .ok (.tuple #[.agg cs.toArray,x]) w:=by
 have i:=run_loadVar_mid (P:=P) w g 0 b cs d e k f hi;rw[results_cell_tmp h,j,l];simp[asAddr,i,Result.andThen]
theorem b5U{w:World}{g:Nat}{t:TypeId}{R:List Nat}{a:Nat×Nat}(h:w.heap[g]? =some (.cells (a0i R) t a)):w.rangeAt g 0 (R.map a23):=by
 intro j v b;rw[a_m,F_ _ _ _ _ _ _ h];simpa[a0i]using b
theorem b1b(R:List Nat):(R.map a23).toArray=a0i R:=by simp[a0i]
theorem b6t(s:ByteArray)(w:World)(e p:Int)(o:s.size≤maxLen)(r:(e !=0)=true)(g:a8R s.data.toList=some (e,p)):
  Calls prog 54 #[.string s] w fun x w'=>x= .returned (.tuple #[.agg (a0i a0L),i_ e])∧B__ w w':=by
 have i:=h__ g;clear g;have q:=a5k w;have m:=(g_ w.heap.size w).alloc (a_ _) (.cells (a0i a0L) 69);have l:(w.alloc (.cells (a0i a0L) 69)).heap.size=w.heap.size+1:=by simp
 go_enter func54,ntmps54;go_upto_region 1 with fail;rw[←b0c];have h:(w.alloc (.cells (a0i a0L) 69)).heap[w.heap.size]? =some (.cells (a0i a0L) 69 (0,0)):=R_ w _;generalize k:w.alloc (.cells (a0i a0L) 69)=W at*;clear q k;have j:=h__ h;clear h;go_wp2_with (first|(go_at_call 43;refine(a4y s _ (e,p) o i.out).mono ?_;rintro t f ⟨rfl,b⟩;have a:Hid (f.heap[w.heap.size]? =some (.cells (a0i a0L) 69 (0,0))):=(by show _=_;rw[b.block _ (by omega)];exact j.out))|(refine a_k rfl 69 (.tmp 2) (.tmp 14) rfl w.heap.size (a0i a0L) rfl (by rw[b0c];rfl) 69 (a0i a0L) a.out (by rw[a0V];rfl) rfl (a6a a0L) ?_;simp only[Act.put]));have c:(f.setRow w.heap.size (a0i a0L)).heap[w.heap.size]? =some (.cells (a0i a0L) 69 (0,0)):=a_N f _ _ _ _ _ a.out;have n:=b5U c;have d:=m.trans (b.mono (by omega));exact m_ (v:= .tuple #[.agg (a0i a0L),i_ e]) (by rw[←b1b];exact a6r rfl _ _ w.heap.size _ _ _ rfl rfl n underlying69 rfl (by rw[a0V];rfl)) rfl ⟨rfl,below_setRow d (a_ _)⟩
theorem b4B(s:ByteArray)(w:World)(l:List Fl)(R:List Nat)(P:s.size≤400)(F:a8R s.data.toList=some (0,0))(j:a5x (a0a s.data.toList)=some l)(z:a8g l)(y:a4L (a0a s.data.toList) l 26=some R):
  Calls prog 54 #[.string s] w fun x w'=>x= .returned (.tuple #[.agg (a0i R),i_ 0])∧B__ w w':=by
 have H:=h__ F;clear F;have B:s.size≤maxLen:=by unfold maxLen;omega
 obtain⟨g,E⟩:=b0B _ _ y;have m:(a0i R).size=26:=by simp[a0i,g]
 have k:(R.map a23).length=26:=by simp[g]
 have q:=h__ j;have J:=h__ y;clear j y;generalize f:a0a s.data.toList=C at*;generalize e:atL s.data.toList 0=A at*;have p:=h__ f;have n:=h__ e;clear f e;have N:=(g_ w.heap.size w).alloc (a_ _) (.cells (a0i a0L) 69);have M:(w.alloc (.cells (a0i a0L) 69)).heap.size=w.heap.size+1:=by simp
 go_enter func54,ntmps54;go_upto_region 1 with fail;rw[←b0c];have G:(w.alloc (.cells (a0i a0L) 69)).heap[w.heap.size]? =some (.cells (a0i a0L) 69 (0,0)):=R_ w _;generalize L:w.alloc (.cells (a0i a0L) 69)=W at*;clear L;have I:=h__ G;clear G;go_wp2_with (first|(go_at_call 43;refine(a4y s _ (0,0) B H.out).mono ?_;rintro X U ⟨rfl,a⟩;have r:Hid (U.heap[w.heap.size]? =some (.cells (a0i a0L) 69 (0,0))):=(by show _=_;rw[a.block _ (by omega)];exact I.out);have S:=a.size)|(go_at_call 44;refine(a81 s _ P).mono ?_;rintro Y V ⟨rfl,b,c⟩;rw[p.out,n.out]at c;have o:=h__ c;clear c;have T:=b.size;have t:Hid (V.heap[w.heap.size]? =some (.cells (a0i a0L) 69 (0,0))):=(by show _=_;rw[b.block _ (by omega)];exact r.out))|(go_at_call 74;refine(b3C _ l R C A _ o.out q.out z J.out).mono ?_;rintro Z D ⟨rfl,h⟩;have d:Hid (D.heap[w.heap.size]? =some (.cells (a0i a0L) 69 (0,0))):=(by show _=_;rw[h.block _ (by omega)];exact t.out))|(refine a_k rfl 69 (.tmp 2) (.tmp 19) rfl w.heap.size (a0i R) rfl rfl 69 (a0i a0L) d.out (by rw[a0V,m]) (by rw[m];rfl) (a6a R) ?_;simp only[Act.put]));have i:(D.setRow w.heap.size (a0i R)).heap[w.heap.size]? =some (.cells (a0i R) 69 (0,0)):=a_N D _ _ _ _ _ d.out;have O:=b5U i;have u:=N.trans ((a.mono (by omega)).trans ((b.mono (by omega)).trans (h.mono (by omega))));exact m_ (v:= .tuple #[.agg (a0i R),i_ 0]) (by rw[←b1b];exact a6r rfl _ _ w.heap.size _ _ _ rfl rfl O underlying69 rfl (by rw[a0V,k])) rfl ⟨rfl,below_setRow u (a_ _)⟩
theorem b2b{B g:Nat}{w:World}(a:B≤g):∀(b:List Value) (o:Nat) (w':World),Below B w w'→Below B w (w'.setCells g o b)
 | [],o,w',h=>h
 |v::r,o,w',h=>by
  rw[World.setCells];exact b2b a r (o+1) _ (h.setCell a v)
theorem c2L{w:World}{g n:Nat}{t:TypeId}{cs:Array Value}(h:w.heap[g]? =some (.cells cs t (0,0)))(a:cs.size=n):w.there g 0 n:=by
 intro j b;constructor
 ·rw[F_ _ _ _ _ _ _ h];simp[a];omega
 ·simp[World.frozen?,h]
theorem c6b(R:List Nat):∀v∈R.map a23,v.oneCell'=true:=by
 intro v a;obtain⟨n,_,rfl⟩:=b_m.mp a;rfl
theorem b28(s:ByteArray)(w:World)(e:Int)(R:List Nat)(hs:s.size≤maxLen)(A:s.size≤400→(a0n s.data.toList).1.bad=false→a31 s.data.toList)(M:(a0s s.data.toList).1=e)(L:a4M s.data.toList=R):
  Calls prog 38 #[.string s] w fun x w'=>x= .returned (.tuple #[.agg (a0i R),i_ e])∧B__ w w':=by
 have F:=h__ A;have T:=h__ M;have U:=h__ L;clear A M L;have Z:=(g_ w.heap.size w).alloc (a_ _) (.cells (a0i a0L) 69);have Y:(w.alloc (.cells (a0i a0L) 69)).heap.size=w.heap.size+1:=by simp
 go_enter func38,ntmps38;go_upto_region 1 with fail;rw[←b0c];have N:(w.alloc (.cells (a0i a0L) 69)).heap[w.heap.size]? =some (.cells (a0i a0L) 69 (0,0)):=R_ w _;generalize X:w.alloc (.cells (a0i a0L) 69)=W at*;clear X;have J:=h__ N;clear N;go_upto_region 2 with(first|(go_at_call 26;refine(b0W s _ hs F.out).mono ?_;rintro x1 m ⟨cs,rfl,C,p⟩;have l:=h__ C;clear C)|(refine a_k rfl 71 (.tmp 4) (.tmp 6) rfl m.heap.size cs.toArray rfl rfl 71 (e30 0 0).toArray (by exact a3y m) (by rw[a1Y,l.out.size]) (by rw[l.out.size];rfl) l.out.one ?_;rw[World.setRow_alloc_new];simp only[Act.put]));have Aa:=p.size;have r:B__ w (m.alloc (.cells cs.toArray 71)):=(Z.trans (p.mono (by omega))).alloc (by omega) _;have S:(m.alloc (.cells cs.toArray 71)).cell? (a__ m.heap.size 0)=some (i_ (a0s s.data.toList).1):=by rw[F_ _ _ _ _ _ _ (R_ m _)];simpa using l.out.cell0
 have B:(m.alloc (.cells cs.toArray 71)).rangeAt m.heap.size 4 ((a4M s.data.toList).map a23):=by
  intro j v hv;rw[F_ _ _ _ _ _ _ (R_ m _)];have:=l.out.labs j;rw[hv]at this;simpa using this
 have D:(m.alloc (.cells cs.toArray 71)).there w.heap.size 0 26:=by
  refine c2L (cs:=a0i a0L) (t:=69) ?_ rfl;rw[heap_alloc_old _ _ (by omega),p.block _ (by omega)];exact J.out
 have o:((a4M s.data.toList).map a23).length=26:=by rw[a_Z];exact l.out.len
 rw[T.out]at S;rw[U.out]at B o;generalize I:m.heap.size=G at*;generalize m.alloc (.cells cs.toArray 71)=V at*;have z:G≠w.heap.size:=by omega
 have E:=h__ r;clear r p I J;have P:=underlying69;have y:(prog.info? 69).map (fun i=>i.size)=some (R.map a23).length:=by rw[a0V,o]
 have O:=c6b R
 go_region_held3 (fun w'=>w'.rangeAt G 4 (R.map a23)∧w'.cell? (a__ G 0)=some (i_ e)∧w'.there w.heap.size 0 26) (first|go_keep|exact⟨World.rangeAt_setCells_apart (by simpa using B) _ _ _ (.inl z),(World.cell?_setCells_out _ _ _ _ _ (fun hx _=>absurd hx z)).trans (by simpa using S),World.there_setCells (by simpa using D) _ _ _⟩) ((fail))
 have u:(V.drew.setCells w.heap.size 0 (R.map a23)).rangeAt w.heap.size 0 (R.map a23):=World.rangeAt_setCells_same _ _ _ _ (by rw[o];simpa using D);have H:=b2b (a_ w.heap.size) (R.map a23) 0 _ E.out.drew;go_wp2_with fail;exact m_ (v:= .tuple #[.agg (a0i R),i_ e]) (by rw[←b1b];exact a6r rfl _ _ w.heap.size _ _ _ rfl rfl u underlying69 rfl y) rfl ⟨rfl,H⟩
end Go.Proofs.YtdgmoiflahoihaaGreatDoor
