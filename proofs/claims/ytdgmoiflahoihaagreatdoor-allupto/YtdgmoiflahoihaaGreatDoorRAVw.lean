import Derived.Test.YtdgmoiflahoihaaGreatDoorRSplitw
import Derived.Test.YtdgmoiflahoihaaGreatDoorROpw
import Derived.Test.YtdgmoiflahoihaaGreatDoorPEvw

set_option linter.unusedSimpArgs false
set_option linter.unusedVariables false
set_option maxRecDepth 100000
set_option maxHeartbeats 8000000
namespace Go.Proofs.YtdgmoiflahoihaaGreatDoor
open Go.Proofs.Tryz
open Go.RowKit
theorem a9O:∀(l:List UInt8) (i:Nat) (s:Sp),(a1b l i s).b=s.b∨((i:Int)≤(a1b l i s).b∧(a1b l i s).b<i+l.length)
 | [],i,s=> .inl rfl
 |c::l,i,s=>by
  have h:=a9O l (i+1) (a2l s i c);have a:(a2l s i c).b=s.b∨(a2l s i c).b=i:=by
   unfold a2l
   split
   ·exact .inr rfl
   ·exact .inl rfl
  show(a1b l (i+1) (a2l s i c)).b=s.b∨_;simp only[a1b,B_];rcases h with h|h
  ·rcases a with a|a
   ·left;rw[h,a]
   ·right;rw[h,a];omega
  ·right;omega
theorem b9e{C:List UInt8}{lo hi:Nat}(h:0≤a1c C lo hi)(b:lo≤hi)(a:hi≤C.length):lo≤(a1c C lo hi).toNat∧(a1c C lo hi).toNat<hi:=by
 have k:=a9O (seg C lo hi) lo sp0;have c:(seg C lo hi).length=hi-lo:=a8F a;unfold a1c at h⊢;rcases k with k|k
 ·rw[k]at h;simp[sp0]at h
 ·omega
theorem c2w(c:UInt8){x y:Vl}(a:a0S x)(b:a0S y):a0S (opC c x y):=by
 unfold opC
 split
 ·exact a
 split
 ·exact b
 split
 ·exact a61 _
 split
 ·exact a61 _
 split
 ·exact a61 _
 split
 ·split<;>exact⟨by simp,by simp,by simp⟩
 split
 ·split<;>exact⟨by simp,by simp,by simp⟩
 split
 ·exact b9u _ _
 ·exact b9N _ a.num
theorem b3Q:∀(l:List UInt8) (n:Int) (m:Nat),(∀c∈l,dgB c=true)→0≤n→n<10^m→0≤a4W l n∧a4W l n<10^(m+l.length)
 | [],n,m,_,h0,h1=>⟨h0,by simpa[a4W]using h1⟩
 |c::l,n,m,h,h0,h1=>by
  have a:=h c (by simp);have b:48≤c.toNat∧c.toNat≤57:=by
   unfold dgB at a;simp at a;exact a
  have e:(10:Int)^(m+1)=10^m*10:=by rw[Int.pow_succ]
  have k:=b3Q l (10*n+((c.toNat:Int)-48)) (m+1) (fun d f=>h d (by simp[f])) (by omega) (by rw[e];omega);simp only[a4W,B_];rw[show m+(l.length+1)=m+1+l.length by omega];exact k
def a5w(w:World)(g:Nat)(names:List Vl):Prop:=∀k,k<26→w.cell? ⟨g,k*2,none⟩=some (.int .i64 (names.getD k vl0).num)∧w.cell? ⟨g,k*2+1,none⟩=some (.int .i64 (names.getD k vl0).fault)
theorem a5w.lt{w:World}{g:Nat}{names:List Vl}(h:a5w w g names):g<w.heap.size:=r_ w _ (h 0 (by omega)).1
theorem a5w.below{w w':World}{g:Nat}{names:List Vl}(h:a5w w g names)(b:B__ w w'):a5w w' g names:=by
 have a:=h.lt;intro k c;exact⟨(b.cell (p:=(a__ g (k*2))) a).trans (h k c).1,(b.cell (p:=(a__ g (k*2+1))) a).trans (h k c).2⟩
def a4q(b a:Nat)(C:List UInt8)(A:List Int)(names:List Vl)(lo hi:Nat)(v:Vl):Prop:=
 ∀w,a0A w b C A→a5w w a names→Calls prog 80 #[.pointer (some ⟨b,0,none⟩),.pointer (some ⟨a,0,none⟩),.int .i64 lo,.int .i64 hi] w fun e c=>e= .returned (vlV v)∧Below w.heap.size w c
theorem c6x{b B:Nat}{C:List UInt8}{A:List Int}{names:List Vl}{lo hi:Nat}{v:Vl}(hl:lo<hi)(V:hi≤C.length)(O:a1c C lo hi= -1)(N:C[lo]? =some 40)(P:a4q b B C A names (lo+1) (hi-1) v):a4q b B C A names lo hi v:=by
 intro w H I;have X:=r_ w _ (show w.cell? (a__ b 0)=_ from H.here.choose_spec.choose_spec.choose_spec.choose_spec.choose_spec.choose_spec.1);have U:=I.lt;have j:B__ w (w.alloc (.cells #[i_ 0,i_ 0] 59)):=(g_ _ _).alloc (a_ _) _;have l:a3N (w.alloc (.cells #[i_ 0,i_ 0] 59)) w.heap.size:=⟨by simp[go_sem],by simp[go_sem],fun o=>by simp[go_sem]⟩
 have Y:(w.alloc (.cells #[i_ 0,i_ 0] 59)).heap.size=w.heap.size+1:=by simp
 have m:=H.below j;have u:=I.below j;clear H I;go_enter func80,ntmps80;go_upto_region 1 with fail;generalize (w.alloc (.cells #[i_ 0,i_ 0] 59))=W at*;have E:Hid (a0A W b C A):=m;have G:Hid (a5w W B names):=u;have F:Hid (B__ w W):=j;have s:Hid (a3N W w.heap.size):=l;have t:Hid (Calls prog 113 #[.pointer (some (a__ b 0)),i_ lo,i_ hi] W fun e J=>e= .returned (i_ (a1c C lo hi))∧J=W):=a8c b lo hi C A W m (by omega) V;rw[O]at t;obtain⟨hC,hA,ac,aa,S,ba,M,L,h0,h1,y,T⟩:=m;obtain⟨rfl,r⟩:=y lo (by omega);have e:C[lo]'(by omega)=40:=(k_.mp N).2;rw[e]at r;have r:W.cell? (a__ S lo)=some (.int .u8 40):=r;have R:Hid (Calls prog 80 #[.pointer (some (a__ b 0)),.pointer (some (a__ B 0)),i_ ((lo:Int)+1),i_ ((hi:Int)-1)] W fun e J=>e= .returned (vlV v)∧B__ W J):=by
  have k:=P W E.out G.out;rw[show((lo+1:Nat):Int)=(lo:Int)+1 by omega,show((hi-1:Nat):Int)=(hi:Int)-1 by omega]at k;exact k
 clear y T P l j u e O N;obtain⟨vn,vf⟩:=v;go_wp2_with (first|(go_at_call 113;refine t.out.mono ?_;rintro e1 w1 ⟨rfl,z⟩;rw[z];clear z)|(go_at_call 80;refine R.out.mono ?_;rintro e2 w2 ⟨rfl,p⟩;obtain⟨Z,s1,sf⟩:=s.out.of_block (p.block _ (by omega));have D:Hid (B__ W w2):=p;clear p));refine m_ (v:=vlV ⟨vn,vf⟩) (by simp[results,results80,go_sem,Z,s1,sf]) rfl ⟨rfl,?_⟩;exact((F.out.trans (D.out.mono (by omega))).setCell (by simp) _).setCell (by simp) _
theorem c7G{b M:Nat}{C:List UInt8}{A:List Int}{names:List Vl}{lo hi:Nat}{v:Vl}(hl:lo<hi)(hh:hi≤C.length)(hs:a1c C lo hi= -1)(Z:C[lo]? =some 45)(hv:a4q b M C A names (lo+1) hi v)(H:a0S v):a4q b M C A names lo hi (opC 45 ⟨0,0⟩ v):=by
 have HN:Hid (a1U 114 #[.int .u8 45,vlV ⟨0,0⟩,vlV v] (opC 45 ⟨0,0⟩ v)):=a9u 45 ⟨0,0⟩ v ⟨by simp,by simp,by simp⟩ H;generalize opC 45 ⟨0,0⟩ v=z at*;obtain⟨zn,zf⟩:=z;intro w T U;have Ab:=r_ w _ (show w.cell? (a__ b 0)=_ from T.here.choose_spec.choose_spec.choose_spec.choose_spec.choose_spec.choose_spec.1);have Aa:=U.lt;have j:B__ w (w.alloc (.cells #[i_ 0,i_ 0] 59)):=(g_ _ _).alloc (a_ _) _;have l:a3N (w.alloc (.cells #[i_ 0,i_ 0] 59)) w.heap.size:=⟨by simp[go_sem],by simp[go_sem],fun o=>by simp[go_sem]⟩
 have Ad:(w.alloc (.cells #[i_ 0,i_ 0] 59)).heap.size=w.heap.size+1:=by simp
 have p:=T.below j;have E:=U.below j;clear T U;go_enter func80,ntmps80;go_upto_region 1 with fail;generalize (w.alloc (.cells #[i_ 0,i_ 0] 59))=W at*;have O:Hid (a0A W b C A):=p;have R:Hid (a5w W M names):=E;have P:Hid (B__ w W):=j;have B:Hid (a3N W w.heap.size):=l;have D:Hid (Calls prog 113 #[.pointer (some (a__ b 0)),i_ lo,i_ hi] W fun e V=>e= .returned (i_ (a1c C lo hi))∧V=W):=a8c b lo hi C A W p (by omega) hh;rw[hs]at D;obtain⟨hC,hA,ac,aa,bc,ba,Y,X,h0,h1,G,ha⟩:=p;obtain⟨rfl,s⟩:=G lo (by omega);have e:C[lo]'(by omega)=45:=(k_.mp Z).2;rw[e]at s;have s:W.cell? (a__ bc lo)=some (.int .u8 45):=s;have HV:Hid (Calls prog 80 #[.pointer (some (a__ b 0)),.pointer (some (a__ M 0)),i_ ((lo:Int)+1),i_ hi] W fun e V=>e= .returned (vlV v)∧B__ W V):=by
  have k:=hv W O.out R.out;rw[show((lo+1:Nat):Int)=(lo:Int)+1 by omega]at k;exact k
 clear G ha hv l j E e hs Z H;obtain⟨L,J⟩:=v;go_upto_region 9 with(first|(go_at_call 113;refine D.out.mono ?_;rintro e1 w1 ⟨rfl,I⟩;rw[I];clear I)|(go_at_call 80;refine HV.out.mono ?_;rintro e2 t ⟨rfl,F⟩;have u:Hid (B__ W t):=F;clear F));have m:B__ W (t.alloc (.cells #[i_ L,i_ J] 59)):=u.out.alloc u.out.size _;have g0:(t.alloc (.cells #[i_ L,i_ J] 59)).cell? (a__ t.heap.size 0)=some (i_ L):=by simp[go_sem]
 have g1:(t.alloc (.cells #[i_ L,i_ J] 59)).cell? (a__ t.heap.size 1)=some (i_ J):=by simp[go_sem]
 generalize (t.alloc (.cells #[i_ L,i_ J] 59))=S at*;have y:Hid (B__ W S):=m;have Ac:W.heap.size≤S.heap.size:=m.size;clear m;go_wp2_with (go_at_call 114;refine(HN.out _).mono ?_;rintro e5 w5 ⟨rfl,r⟩;obtain⟨s0,s1,sf⟩:=(B.out.of_block (y.out.block _ (by omega))).of_block (r.block _ (by omega));have N:Hid (B__ S w5):=r;clear r);refine m_ (v:=vlV ⟨zn,zf⟩) (by simp[results,results80,go_sem,s0,s1,sf]) rfl ⟨rfl,?_⟩;exact(((P.out.trans (y.out.mono (by omega))).trans (N.out.mono (by omega))).setCell (by simp) _).setCell (by simp) _
theorem c7k{b M:Nat}{C:List UInt8}{A:List Int}{names:List Vl}{lo hi:Nat}{c:UInt8}(hl:lo<hi)(hh:hi≤C.length)(O:a1c C lo hi= -1)(N:C[lo]? =some c)(B:nmB c=true):a4q b M C A names lo hi (names.getD (c.toNat-97) vl0):=by
 have G:97≤c.toNat∧c.toNat≤122:=by
  unfold nmB at B;simp at B;exact B
 obtain⟨n,y⟩:∃n:Nat,c.toNat=n+97:=⟨c.toNat-97,by omega⟩
 have z:n<26:=by omega
 rw[show c.toNat-97=n by omega];generalize P:names.getD n vl0=x;intro w E F;have Aa:=r_ w _ (show w.cell? (a__ b 0)=_ from E.here.choose_spec.choose_spec.choose_spec.choose_spec.choose_spec.choose_spec.1);have Z:=F.lt;have l:B__ w (w.alloc (.cells #[i_ 0,i_ 0] 59)):=(g_ _ _).alloc (a_ _) _;have m:a3N (w.alloc (.cells #[i_ 0,i_ 0] 59)) w.heap.size:=⟨by simp[go_sem],by simp[go_sem],fun o=>by simp[go_sem]⟩
 have Ab:(w.alloc (.cells #[i_ 0,i_ 0] 59)).heap.size=w.heap.size+1:=by simp
 have p:=E.below l;have r:=F.below l;clear E F;go_enter func80,ntmps80;go_upto_region 1 with fail;generalize (w.alloc (.cells #[i_ 0,i_ 0] 59))=W at*;have T:Hid (a0A W b C A):=p;have V:Hid (a5w W M names):=r;have D:Hid (B__ w W):=l;have I:Hid (a3N W w.heap.size):=m;have s:Hid (Calls prog 113 #[.pointer (some (a__ b 0)),i_ lo,i_ hi] W fun e H=>e= .returned (i_ (a1c C lo hi))∧H=W):=a8c b lo hi C A W p (by omega) hh;rw[O]at s;obtain⟨hC,hA,ac,aa,bc,ba,L,J,h0,h1,t,Y⟩:=p;obtain⟨rfl,u⟩:=t lo (by omega);have e:C[lo]'(by omega)=c:=(k_.mp N).2;rw[e]at u;rw[y,show((n+97:Nat):Int)=(n:Int)+97 by omega]at u;obtain⟨R,S⟩:=r n z;have U:Hid (∀w,Calls prog 115 #[i_ ((n:Int)+97)] w fun e H=>e= .returned T__∧H=w):=fun w=>by
  have k:=a0d ((n:Int)+97) w;have e:a2f ((n:Int)+97)=true:=by unfold a2f;simp;omega
  rw[e]at k;exact k
 have Ag:((n:Int)+97==45)=false:=by rw[p_];omega
 have Af:((n:Int)+97==40)=false:=by rw[p_];omega
 have Ad:(0:Int)≤(n:Int):=by omega
 have Ae:(n:Int)<26:=by omega
 have Ac:wrap64 ((n:Int)+97)=(n:Int)+97:=by unfold wrap64;omega
 obtain⟨s0,s1,sf⟩:=m;rw[P]at R S;obtain⟨xn,xf⟩:=x;simp only at R S;clear t Y l r e O N B y G P;go_wp2_with (first|(go_at_call 113;refine s.out.mono ?_;rintro X w1 ⟨rfl,j⟩;rw[j];clear j)|(go_at_call 115;refine(U.out _).mono ?_;rintro X w1 ⟨rfl,j⟩;rw[j];clear j));refine m_ (v:=vlV ⟨xn,xf⟩) (by simp[results,results80,go_sem,s0,s1,sf]) rfl ⟨rfl,?_⟩;exact(D.out.setCell (by simp) _).setCell (by simp) _
theorem c6y{b Z:Nat}{C:List UInt8}{A:List Int}{names:List Vl}{lo hi k:Nat}{x y:Vl}{c:UInt8}(hl:lo<hi)(hh:hi≤C.length)(hs:a1c C lo hi=(k:Int))(Aw:lo≤k)(Ax:k<hi)(hc:C[k]? =some c)(hx:a4q b Z C A names lo k x)(hy:a4q b Z C A names (k+1) hi y)(Aj:a0S x)(Ak:a0S y):a4q b Z C A names lo hi (opC c x y):=by
 have HN:Hid (a1U 114 #[.int .u8 c.toNat,vlV x,vlV y] (opC c x y)):=a9u c x y Aj Ak;generalize opC c x y=z at*;obtain⟨zn,zf⟩:=z;intro w hB hV;have Ap:=r_ w _ (show w.cell? (a__ b 0)=_ from hB.here.choose_spec.choose_spec.choose_spec.choose_spec.choose_spec.choose_spec.1);have Av:=hV.lt;have G:B__ w (w.alloc (.cells #[i_ 0,i_ 0] 59)):=(g_ _ _).alloc (a_ _) _;have L:a3N (w.alloc (.cells #[i_ 0,i_ 0] 59)) w.heap.size:=⟨by simp[go_sem],by simp[go_sem],fun o=>by simp[go_sem]⟩
 have At:(w.alloc (.cells #[i_ 0,i_ 0] 59)).heap.size=w.heap.size+1:=by simp
 have Y:=hB.below G;have Ad:=hV.below G;obtain⟨hC,hA,ac,aa,s,ba,J,Au,h0,h1,Ag,ha⟩:=hB;clear hV;go_enter func80,ntmps80;go_upto_region 1 with fail;generalize (w.alloc (.cells #[i_ 0,i_ 0] 59))=W at*;have S:Hid (a0A W b C A):=Y;have X:Hid (a5w W Z names):=Ad;have Aa:Hid (B__ w W):=G;have I:Hid (a3N W w.heap.size):=L;have U:Hid (Calls prog 113 #[.pointer (some (a__ b 0)),i_ lo,i_ hi] W fun e w'=>e= .returned (i_ (a1c C lo hi))∧w'=W):=a8c b lo hi C A W Y (by omega) hh;rw[hs]at U;obtain⟨rfl,H⟩:=Ag k (by omega);have e:C[k]'(by omega)=c:=(k_.mp hc).2;rw[e]at H;have Am:s<w.heap.size:=r_ w _ H;have tk:decide ((0:Int)≤(k:Int))=true:=by simp
 have HX:Hid (Calls prog 80 #[.pointer (some (a__ b 0)),.pointer (some (a__ Z 0)),i_ lo,i_ k] W fun e w'=>e= .returned (vlV x)∧B__ W w'):=hx W S.out X.out;have Ab:Hid (∀V,B__ W V→Calls prog 80 #[.pointer (some (a__ b 0)),.pointer (some (a__ Z 0)),i_ ((k:Int)+1),i_ hi] V fun e w'=>e= .returned (vlV y)∧B__ V w'):=fun V hb=>by
  have q:=hy V (S.out.below hb) (X.out.below hb);rw[show((k+1:Nat):Int)=(k:Int)+1 by omega]at q;exact q
 clear Ag ha L G Ad e hs hc hx hy Aj Ak h1 Y;obtain⟨N,M⟩:=x;obtain⟨P,O⟩:=y;go_upto_region 4 with(first|(go_at_call 113;refine U.out.mono ?_;rintro e1 w1 ⟨rfl,Ai⟩;rw[Ai];clear Ai)|(go_at_call 80;refine HX.out.mono ?_;rintro e2 u ⟨rfl,Ae⟩;have E:Hid (B__ W u):=Ae;clear Ae));have Ac:B__ W (u.alloc (.cells #[i_ N,i_ M] 59)):=E.out.alloc E.out.size _;have g0:(u.alloc (.cells #[i_ N,i_ M] 59)).cell? (a__ u.heap.size 0)=some (i_ N):=by simp[go_sem]
 have g1:(u.alloc (.cells #[i_ N,i_ M] 59)).cell? (a__ u.heap.size 1)=some (i_ M):=by simp[go_sem]
 have Ar:(u.alloc (.cells #[i_ N,i_ M] 59)).heap.size=u.heap.size+1:=by simp
 have Aq:W.heap.size≤u.heap.size:=E.out.size;generalize (u.alloc (.cells #[i_ N,i_ M] 59))=W3 at*;generalize An:u.heap.size=r at*;have F:Hid (B__ W W3):=Ac;clear Ac E An;go_upto_region 5 with(go_at_call 80;refine(Ab.out _ F.out).mono ?_;rintro e4 B ⟨rfl,Af⟩;have R:Hid (B__ W3 B):=Af;clear Af);have Ah:W3.heap.size≤B.heap.size:=R.out.size;have t:B__ W3 (B.alloc (.cells #[i_ P,i_ O] 59)):=R.out.alloc Ah _;have y0:(B.alloc (.cells #[i_ P,i_ O] 59)).cell? (a__ B.heap.size 0)=some (i_ P):=by simp[go_sem]
 have y1:(B.alloc (.cells #[i_ P,i_ O] 59)).cell? (a__ B.heap.size 1)=some (i_ O):=by simp[go_sem]
 have As:(B.alloc (.cells #[i_ P,i_ O] 59)).heap.size=B.heap.size+1:=by simp
 generalize (B.alloc (.cells #[i_ P,i_ O] 59))=m at*;generalize Ao:B.heap.size=D at*;rw[←t.cell (p:=((a__ r 0):Addr)) (by simp only;omega)]at g0;rw[←t.cell (p:=((a__ r 1):Addr)) (by simp only;omega)]at g1;have l:B__ w m:=(Aa.out.trans (F.out.mono (by omega))).trans (t.mono (by omega));have p0:=(l.cell (p:=((a__ b 0):Addr)) Ap).trans h0;have p1:=(l.cell (p:=((a__ s k):Addr)) Am).trans H;have T:Hid (a3N m w.heap.size):=(I.out.of_block (F.out.block _ (by omega))).of_block (t.block _ (by omega));have Al:Hid (B__ w m):=l;have HK:Hid (∀V:World,V.heap[b]? =m.heap[b]? →V.heap[s]? =m.heap[s]? →V.heap[r]? =m.heap[r]? →V.heap[D]? =m.heap[D]? →V.cell? (a__ b 0)=some (.slice (some (a__ s 0)) C.length J)∧V.cell? (a__ s k)=some (.int .u8 c.toNat)∧V.cell? (a__ r 0)=some (i_ N)∧V.cell? (a__ r 1)=some (i_ M)∧V.cell? (a__ D 0)=some (i_ P)∧V.cell? (a__ D 1)=some (i_ O)):=fun V e1 e2 e3 e4=>⟨(e_ (a:=(a__ b 0)) e1).trans p0,(e_ (a:=(a__ s k)) e2).trans p1,(e_ (a:=(a__ r 0)) e3).trans g0,(e_ (a:=(a__ r 1)) e3).trans g1,(e_ (a:=(a__ D 0)) e4).trans y0,(e_ (a:=(a__ D 1)) e4).trans y1⟩
 have l1:b<m.heap.size:=by omega
 have l2:s<m.heap.size:=by omega
 have l3:r<m.heap.size:=by omega
 have l4:D<m.heap.size:=by omega
 have n1:b≠w.heap.size:=by omega
 have n2:s≠w.heap.size:=by omega
 have n3:r≠w.heap.size:=by omega
 have n4:D≠w.heap.size:=by omega
 have Ay:(0:Int)≤(k:Int):=by omega
 have Az:(k:Int)<(C.length:Int):=by omega
 have l5:w.heap.size<m.heap.size:=by omega
 clear t l R F Aa I g0 g1 y0 y1 p0 p1 H h0 HX Ab U S X Aq Ar Ah As At Ao
 go_region_held3 (fun w'=>w'.cell? (a__ b 0)=some (.slice (some (a__ s 0)) C.length J)∧w'.cell? (a__ s k)=some (.int .u8 c.toNat)∧w'.cell? (a__ r 0)=some (i_ N)∧w'.cell? (a__ r 1)=some (i_ M)∧w'.cell? (a__ D 0)=some (i_ P)∧w'.cell? (a__ D 1)=some (i_ O)) (first|exact HK.out _ rfl rfl rfl rfl|exact HK.out _ (j.block _ l1) (j.block _ l2) (j.block _ l3) (j.block _ l4)|exact HK.out _ ((o_ _ _ _ _ n1).trans ((o_ _ _ _ _ n1).trans (j.block _ l1))) ((o_ _ _ _ _ n2).trans ((o_ _ _ _ _ n2).trans (j.block _ l2))) ((o_ _ _ _ _ n3).trans ((o_ _ _ _ _ n3).trans (j.block _ l3))) ((o_ _ _ _ _ n4).trans ((o_ _ _ _ _ n4).trans (j.block _ l4)))) ((go_at_call 114;refine(HN.out _).mono ?_;rintro e5 w5 ⟨rfl,j⟩;obtain⟨s0,s1,sf⟩:=T.out.of_block (w':=w5) (j.block _ l5)))
 all_goals go_wp2_with fail
 all_goals refine m_ (v:=vlV ⟨zn,zf⟩) (by simp[results,results80,go_sem,s0,s1,sf]) rfl ⟨rfl,?_⟩
 all_goals exact((Al.out.drew.trans (j.mono (by simp only[World.drew];omega))).setCell (by simp) _).setCell (by simp) _
theorem c31{c:UInt8}(h:dgB c=true):48≤c.toNat∧c.toNat≤57:=by
 unfold dgB at h;simp at h;exact h
theorem c6l{C:List UInt8}{lo hi i:Nat}(a:lo≤i)(b:i<hi)(c:hi≤C.length):C[i]'(by omega)∈seg C lo hi:=by
 unfold seg;rw[List.mem_iff_getElem];refine⟨i-lo,by simp;omega,?_⟩;simp only[List.getElem_take,List.getElem_drop];congr 1;omega
theorem c5f{b Y:Nat}{C:List UInt8}{A:List Int}{names:List Vl}{lo hi:Nat}(hl:lo<hi)(L:hi≤C.length)(hs:a1c C lo hi= -1)(hd:∀c∈seg C lo hi,dgB c=true)(Ad:hi≤lo+18):a4q b Y C A names lo hi ⟨a4W (seg C lo hi) 0,0⟩:=by
 have O:Hid (∀i,lo≤i→∀h:i<hi,∃e:Nat,(C[i]'(by omega)).toNat=e+48∧e≤9):=fun i Z F=>by
  have:=c31 (hd _ (c6l Z F L))
  exact⟨(C[i]'(by omega)).toNat-48,by omega,by omega⟩
 generalize u:a4W (seg C lo hi) 0=R
 have HR:Hid (a4W (seg C lo hi) 0=R):=u
 clear hd u
 intro w G H
 have Ai:=r_ w _ (show w.cell? ⟨b,0,none⟩=_ from G.here.choose_spec.choose_spec.choose_spec.choose_spec.choose_spec.choose_spec.1)
 have Ag:=H.lt
 have d:Below w.heap.size w (w.alloc (.cells #[.int .i64 0,.int .i64 0] 59)):=(g_ _ _).alloc (a_ _) _
 have g:a3N (w.alloc (.cells #[.int .i64 0,.int .i64 0] 59)) w.heap.size:=⟨by simp[go_sem],by simp[go_sem],fun o=>by simp[go_sem]⟩
 have Aj:(w.alloc (.cells #[.int .i64 0,.int .i64 0] 59)).heap.size=w.heap.size+1:=by simp
 have l:=G.below d
 have r:=H.below d
 clear G H
 go_enter func80,ntmps80
 go_upto_region 1 with fail
 generalize (w.alloc (.cells #[.int .i64 0,.int .i64 0] 59))=W at*
 have Ab:Hid (a0A W b C A):=l
 have Ac:Hid (a5w W Y names):=r
 have z:Hid (Below w.heap.size w W):=d
 have U:Hid (a3N W w.heap.size):=g
 have p:Hid (Calls prog 113 #[.pointer (some ⟨b,0,none⟩),.int .i64 lo,.int .i64 hi] W fun e t=>e= .returned (.int .i64 (a1c C lo hi))∧t=W):=a8c b lo hi C A W l (by omega) L
 rw[hs]at p
 obtain⟨hC,hA,ac,aa,bc,ba,X,V,Z,F,m,ha⟩:=l
 have B:Hid _:=m
 obtain⟨rfl,s⟩:=m lo (by omega)
 obtain⟨e,he,Ae⟩:=O.out lo (a_ _) hl
 rw[he,show((e+48:Nat):Int)=(e:Int)+48 by omega]at s
 have HI:Hid (∀w,Calls prog 115 #[.int .i64 ((e:Int)+48)] w fun e t=>e= .returned (.bool false)∧t=w):=fun w=>by
  have k:=a0d ((e:Int)+48) w
  have e:a2f ((e:Int)+48)=false:=by unfold a2f;simp;omega
  rw[e]at k
  exact k
 have Al:((e:Int)+48==45)=false:=by rw[p_];omega
 have Ak:((e:Int)+48==40)=false:=by rw[p_];omega
 obtain⟨s0,s1,sf⟩:=g
 have N:wrap64 ((e:Int)+48)=(e:Int)+48:=by unfold wrap64;omega
 clear m ha d r hs he F
 go_wp2_with (first|(go_at_call 113;refine p.out.mono ?_;rintro e1 w1 ⟨rfl,a⟩;rw[a];clear a)|(go_at_call 115;refine(HI.out _).mono ?_;rintro e1 w1 ⟨rfl,a⟩;rw[a];clear a))
 go_loopw [14,15] (fun x y t=>∃i n:Nat,y= .int .i64 i∧x= .int .i64 n∧t=W∧lo≤i∧i≤hi∧Hid (n<10^(i-lo))∧Hid (a4W (seg C i hi) (n:Int)=R)) (fun _ y _=>hi-(intOf y).toNat)
 case atStart=>exact⟨lo,0,rfl,rfl,rfl,a_ _,a_K hl,by show 0<10^(lo-lo);rw[b_c];decide,HR⟩
 case round=>
  clear N
  obtain⟨i,n,rfl,rfl,hw,M,Ah,T,S⟩:=hrel
  subst hw
  by_cases j:i<hi
  ·have tk:decide ((i:Int)<(hi:Int))=true:=by simp;omega
   obtain⟨_,I⟩:=B.out i (by omega)
   obtain⟨f,J,Af⟩:=O.out i M j
   have D:Hid (a4W (seg C (i+1) hi) ((10*n+f:Nat):Int)=R):=by
    have q:=S.out
    rw[a25 j L]at q
    simp only[a4W]at q
    rw[J,show(10*(n:Int)+(((f+48:Nat):Int)-48))=((10*n+f:Nat):Int)by omega]at q
    exact q
   have E:Hid (10*n+f<10^(i+1-lo)):=by
    have q:=T.out
    show _<_
    rw[show i+1-lo=i-lo+1 by omega,b_l]
    generalize 10^(i-lo)=P at*
    omega
   have Aa:n<100000000000000000:=by
    have q:=T.out
    have:=a_n (show 0<10 by decide) (show i-lo≤17 by omega)
    exact Q_ q (K_ this (by decide))
   rw[J,show((f+48:Nat):Int)=(f:Int)+48 by omega]at I
   clear s J
   go_wp2_with fail
   go_roundw
   case rel=>exact⟨i+1,10*n+f,by go_num,by go_num,by trivial,by omega,by omega,E,D⟩
   case measure=>simp[intOf];omega
  ·have tk:decide ((i:Int)<(hi:Int))=false:=by simp;omega
   have u:(n:Int)=R:=by
    have q:=S.out
    rw[a4n (by omega)]at q
    exact q
   go_wp2_with fail
   refine m_ (v:=vlV ⟨R,0⟩) (by simp[results,results80,go_sem,s0,s1,sf,u]) rfl ⟨rfl,?_⟩
   exact(z.out.setCell (by simp) _).setCell (by simp) _
theorem c56{names:List Vl}(a:∀v∈names,a0S v)(n:Nat):a0S (names.getD n vl0):=by
 rw[t_];cases e:names[n]? with
 |none=>exact⟨by simp[vl0],by simp[vl0],by simp[vl0]⟩
 |some v=>exact a v (a_Q e)
theorem b1V(b t:Nat)(C:List UInt8)(A:List Int)(names:List Vl)(n:∀v∈names,a0S v):∀(f lo hi:Nat) (v:Vl),a3v C names f lo hi=some v→hi≤C.length→a0S v∧a4q b t C A names lo hi v
 |0,lo,hi,v,h,_=>by cases h
 |f+1,lo,hi,v,h,hh=>by
  have r:=b1V b t C A names n f;unfold a3v at h;by_cases w:hi≤lo
  ·rw[n_ w]at h;cases h
  rw[f_ w]at h;by_cases p:0≤a1c C lo hi
  ·rw[n_ p]at h;obtain⟨F,G⟩:=b9e p (by omega) hh;have E:a1c C lo hi=((a1c C lo hi).toNat:Int):=by omega
   generalize (a1c C lo hi).toNat=k at*;cases e:a3v C names f lo k with
   |none=>rw[e]at h;simp at h
   |some x=>
    cases q:a3v C names f (k+1) hi with
    |none=>rw[e,q]at h;simp at h
    |some y=>
     cases a:C[k]? with
     |none=>rw[e,q,a]at h;simp at h
     |some c=>
      rw[e,q,a]at h;simp only[U_]at h;subst h;obtain⟨g,i⟩:=r lo k x e (by omega);obtain⟨z,D⟩:=r (k+1) hi y q hh;exact⟨c2w c g z,c6y (by omega) hh E F G a i D g z⟩
  ·rw[f_ p]at h;have d:a1c C lo hi= -1:=by
    have k:=a9O (seg C lo hi) lo sp0;unfold a1c at p⊢;rcases k with k|k
    ·rw[k];rfl
    ·omega
   cases a:C[lo]? with
   |none=>rw[a]at h;simp at h
   |some c=>
    rw[a]at h;simp only at h;by_cases l:c=45
    ·subst l;simp only[show((45:UInt8)==45)=true by decide,a_b]at h;cases e:a3v C names f (lo+1) hi with
     |none=>rw[e]at h;simp at h
     |some x=>
      rw[e]at h;simp only[U_]at h;subst h;obtain⟨g,i⟩:=r (lo+1) hi x e hh;exact⟨c2w 45 ⟨by simp,by simp,by simp⟩ g,c7G (by omega) hh d a i g⟩
    rw[f_ (by simpa using l)]at h;by_cases j:c=40
    ·subst j;simp only[show((40:UInt8)==40)=true by decide,a_b]at h;obtain⟨g,i⟩:=r (lo+1) (hi-1) v h (by omega);exact⟨g,c6x (by omega) hh d a i⟩
    rw[f_ (by simpa using j)]at h;by_cases s:nmB c=true
    ·rw[n_ s]at h;simp only[U_]at h;subst h;exact⟨c56 n _,c7k (by omega) hh d a s⟩
    rw[f_ s]at h;by_cases o:((seg C lo hi).all dgB&&decide (hi≤lo+18))=true
    ·rw[n_ o]at h;simp only[U_]at h;subst h;simp only[Z_,a_e]at o;have u:=b_n.mp o.1;obtain⟨I,J⟩:=b3Q (seg C lo hi) 0 0 u (by omega) (by decide);have m:(seg C lo hi).length≤18:=by rw[a8F hh];omega
     have H:(10:Int)^(0+(seg C lo hi).length)≤10^18:=by
      rw[a_m];have:=a_n (show 0<10 by decide) m
      exact_mod_cast this
     have B:(10:Int)^18=1000000000000000000:=by decide
     exact⟨⟨⟨by simp only;omega,by simp only;omega⟩,by simp,by simp⟩,c5f (by omega) hh d u o.2⟩
    ·rw[f_ o]at h;cases h
end Go.Proofs.YtdgmoiflahoihaaGreatDoor
