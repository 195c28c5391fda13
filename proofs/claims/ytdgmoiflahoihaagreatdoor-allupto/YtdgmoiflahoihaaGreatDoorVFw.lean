import Derived.Test.YtdgmoiflahoihaaGreatDoorVAw
import Derived.Laws.MakeOwn
import Derived.Laws.CopyRow
import Derived.Laws.CopyOwn

set_option linter.unusedSimpArgs false
set_option linter.unusedVariables false
set_option maxRecDepth 100000
set_option maxHeartbeats 8000000
namespace Go.Proofs.YtdgmoiflahoihaaGreatDoor
open Go.Proofs.Tryz
open Go.RowKit
theorem a2G(a n:Int)(w:World):
  Calls prog 167 #[i_ a,i_ n] w fun e w'=>e= .returned (.bool (bel a n))∧w'=w:=by
 go_enter func167,ntmps167
 go_wp2
 all_goals go_ret
 all_goals (refine⟨?_,rfl⟩;simp[bel, *];try omega)
theorem a3X(a:Int)(w:World):
  Calls prog 166 #[i_ a] w fun e w'=>e= .returned (.bool (bel a 100))∧w'=w:=by
 go_enter func166,ntmps166;go_wp2_with (go_at_call 167;refine(a2G a 100 _).mono ?_;rintro e b ⟨rfl,rfl⟩);go_ret;exact⟨rfl,rfl⟩
theorem b1j(x:Ic)(w:World):
  Calls prog 123 #[icV x] w fun e w'=>e= .returned (.bool (a4A x))∧w'=w.alloc (.cells (a0O x) 87):=by
 go_enter func123,ntmps123
 go_wp2
 all_goals go_ret
 all_goals (refine⟨?_,rfl⟩;simp[a4A, *])
theorem c6L(a b c n:Int)(w:World)(x:Ic)(j:x=⟨0,a,b,c⟩):Calls prog 122 #[icV x,i_ n] w fun e w'=>e= .returned (.bool (a0I x n))∧w'=w.alloc (.cells (a0O x) 87):=by
 subst j;go_enter func122,ntmps122;go_wp2_with (first|(go_at_call 167;refine(a2G _ _ _).mono ?_;rintro e l ⟨rfl,rfl⟩)|(go_at_call 166;refine(a3X _ _).mono ?_;rintro e l ⟨rfl,rfl⟩));all_goals go_ret
 all_goals (first|exact⟨by simp[a0I, *],rfl⟩|exact⟨by simp[a0I, *],by simp[*]⟩)
theorem c6M(a b c n:Int)(w:World)(x:Ic)(j:x=⟨1,a,b,c⟩):Calls prog 122 #[icV x,i_ n] w fun e w'=>e= .returned (.bool (a0I x n))∧w'=w.alloc (.cells (a0O x) 87):=by
 subst j;go_enter func122,ntmps122;go_wp2_with (first|(go_at_call 167;refine(a2G _ _ _).mono ?_;rintro e l ⟨rfl,rfl⟩)|(go_at_call 166;refine(a3X _ _).mono ?_;rintro e l ⟨rfl,rfl⟩));all_goals go_ret
 all_goals (first|exact⟨by simp[a0I, *],rfl⟩|exact⟨by simp[a0I, *],by simp[*]⟩)
theorem c6N(a b c n:Int)(w:World)(x:Ic)(j:x=⟨2,a,b,c⟩):Calls prog 122 #[icV x,i_ n] w fun e w'=>e= .returned (.bool (a0I x n))∧w'=w.alloc (.cells (a0O x) 87):=by
 subst j;go_enter func122,ntmps122;go_wp2_with (first|(go_at_call 167;refine(a2G _ _ _).mono ?_;rintro e l ⟨rfl,rfl⟩)|(go_at_call 166;refine(a3X _ _).mono ?_;rintro e l ⟨rfl,rfl⟩));all_goals go_ret
 all_goals (first|exact⟨by simp[a0I, *],rfl⟩|exact⟨by simp[a0I, *],by simp[*]⟩)
theorem c6O(a b c n:Int)(w:World)(x:Ic)(j:x=⟨3,a,b,c⟩):Calls prog 122 #[icV x,i_ n] w fun e w'=>e= .returned (.bool (a0I x n))∧w'=w.alloc (.cells (a0O x) 87):=by
 subst j;go_enter func122,ntmps122;go_wp2_with (first|(go_at_call 167;refine(a2G _ _ _).mono ?_;rintro e l ⟨rfl,rfl⟩)|(go_at_call 166;refine(a3X _ _).mono ?_;rintro e l ⟨rfl,rfl⟩));all_goals go_ret
 all_goals (first|exact⟨by simp[a0I, *],rfl⟩|exact⟨by simp[a0I, *],by simp[*]⟩)
theorem c5N(a b c n:Int)(w:World)(x:Ic)(j:x=⟨11,a,b,c⟩):Calls prog 122 #[icV x,i_ n] w fun e w'=>e= .returned (.bool (a0I x n))∧w'=w.alloc (.cells (a0O x) 87):=by
 subst j;go_enter func122,ntmps122;go_wp2_with (first|(go_at_call 167;refine(a2G _ _ _).mono ?_;rintro e l ⟨rfl,rfl⟩)|(go_at_call 166;refine(a3X _ _).mono ?_;rintro e l ⟨rfl,rfl⟩));all_goals go_ret
 all_goals (first|exact⟨by simp[a0I, *],rfl⟩|exact⟨by simp[a0I, *],by simp[*]⟩)
theorem c5O(a b c n:Int)(w:World)(x:Ic)(j:x=⟨12,a,b,c⟩):Calls prog 122 #[icV x,i_ n] w fun e w'=>e= .returned (.bool (a0I x n))∧w'=w.alloc (.cells (a0O x) 87):=by
 subst j;go_enter func122,ntmps122;go_wp2_with (first|(go_at_call 167;refine(a2G _ _ _).mono ?_;rintro e l ⟨rfl,rfl⟩)|(go_at_call 166;refine(a3X _ _).mono ?_;rintro e l ⟨rfl,rfl⟩));all_goals go_ret
 all_goals (first|exact⟨by simp[a0I, *],rfl⟩|exact⟨by simp[a0I, *],by simp[*]⟩)
theorem c5P(a b c n:Int)(w:World)(x:Ic)(j:x=⟨13,a,b,c⟩):Calls prog 122 #[icV x,i_ n] w fun e w'=>e= .returned (.bool (a0I x n))∧w'=w.alloc (.cells (a0O x) 87):=by
 subst j;go_enter func122,ntmps122;go_wp2_with (first|(go_at_call 167;refine(a2G _ _ _).mono ?_;rintro e l ⟨rfl,rfl⟩)|(go_at_call 166;refine(a3X _ _).mono ?_;rintro e l ⟨rfl,rfl⟩));all_goals go_ret
 all_goals (first|exact⟨by simp[a0I, *],rfl⟩|exact⟨by simp[a0I, *],by simp[*]⟩)
theorem c5Q(a b c n:Int)(w:World)(x:Ic)(j:x=⟨14,a,b,c⟩):Calls prog 122 #[icV x,i_ n] w fun e w'=>e= .returned (.bool (a0I x n))∧w'=w.alloc (.cells (a0O x) 87):=by
 subst j;go_enter func122,ntmps122;go_wp2_with (first|(go_at_call 167;refine(a2G _ _ _).mono ?_;rintro e l ⟨rfl,rfl⟩)|(go_at_call 166;refine(a3X _ _).mono ?_;rintro e l ⟨rfl,rfl⟩));all_goals go_ret
 all_goals (first|exact⟨by simp[a0I, *],rfl⟩|exact⟨by simp[a0I, *],by simp[*]⟩)
theorem c5R(a b c n:Int)(w:World)(x:Ic)(j:x=⟨15,a,b,c⟩):Calls prog 122 #[icV x,i_ n] w fun e w'=>e= .returned (.bool (a0I x n))∧w'=w.alloc (.cells (a0O x) 87):=by
 subst j;go_enter func122,ntmps122;go_wp2_with (first|(go_at_call 167;refine(a2G _ _ _).mono ?_;rintro e l ⟨rfl,rfl⟩)|(go_at_call 166;refine(a3X _ _).mono ?_;rintro e l ⟨rfl,rfl⟩));all_goals go_ret
 all_goals (first|exact⟨by simp[a0I, *],rfl⟩|exact⟨by simp[a0I, *],by simp[*]⟩)
theorem c5T(o a b c n:Int)(w:World)(x:Ic)(l:x=⟨o,a,b,c⟩)(j:o=4∨o=5∨o=6∨o=7∨o=8∨o=9∨o=10):Calls prog 122 #[icV x,i_ n] w fun e w'=>e= .returned (.bool (a0I x n))∧w'=w.alloc (.cells (a0O x) 87):=by
 subst l;rcases j with rfl|rfl|rfl|rfl|rfl|rfl|rfl
 all_goals (
  go_enter func122,ntmps122;go_wp2_with (first|(go_at_call 167;refine(a2G _ _ _).mono ?_;rintro e m ⟨rfl,rfl⟩)|(go_at_call 166;refine(a3X _ _).mono ?_;rintro e m ⟨rfl,rfl⟩));all_goals go_ret
  all_goals (refine⟨?_,rfl⟩;simp[a0I, *]))
theorem c5S(o a b c n:Int)(w:World)(x:Ic)(t:x=⟨o,a,b,c⟩)(J:o<0∨15<o):Calls prog 122 #[icV x,i_ n] w fun e w'=>e= .returned (.bool (a0I x n))∧w'=w.alloc (.cells (a0O x) 87):=by
 subst t;have y:(o==0)=false:=by simp;omega
 have z:(o==1)=false:=by simp;omega
 have A:(o==2)=false:=by simp;omega
 have B:(o==3)=false:=by simp;omega
 have C:(o==4)=false:=by simp;omega
 have D:(o==5)=false:=by simp;omega
 have E:(o==6)=false:=by simp;omega
 have F:(o==7)=false:=by simp;omega
 have G:(o==8)=false:=by simp;omega
 have H:(o==9)=false:=by simp;omega
 have j:(o==10)=false:=by simp;omega
 have l:(o==11)=false:=by simp;omega
 have m:(o==12)=false:=by simp;omega
 have p:(o==13)=false:=by simp;omega
 have r:(o==14)=false:=by simp;omega
 have s:(o==15)=false:=by simp;omega
 go_enter func122,ntmps122;go_wp2_with (first|(go_at_call 167;refine(a2G _ _ _).mono ?_;rintro e u ⟨rfl,rfl⟩)|(go_at_call 166;refine(a3X _ _).mono ?_;rintro e u ⟨rfl,rfl⟩));all_goals go_ret
 refine⟨?_,rfl⟩;have I:¬(4≤o∧o≤10):=by omega
 simp only[p_,ne_eq]at*;simp[a0I, *]
theorem b64(x:Ic)(n:Int)(w:World):Calls prog 122 #[icV x,i_ n] w fun e w'=>e= .returned (.bool (a0I x n))∧w'=w.alloc (.cells (a0O x) 87):=by
 obtain⟨o,a,b,c⟩:=x;by_cases h:o<0∨15<o
 ·exact c5S o a b c n w _ rfl h
 by_cases d:4≤o∧o≤10
 ·exact c5T o a b c n w _ rfl (by omega)
 rcases(show o=0∨o=1∨o=2∨o=3∨o=11∨o=12∨o=13∨o=14∨o=15 by omega)with rfl|rfl|rfl|rfl|rfl|rfl|rfl|rfl|rfl
 ·exact c6L a b c n w _ rfl
 ·exact c6M a b c n w _ rfl
 ·exact c6N a b c n w _ rfl
 ·exact c6O a b c n w _ rfl
 ·exact c5N a b c n w _ rfl
 ·exact c5O a b c n w _ rfl
 ·exact c5P a b c n w _ rfl
 ·exact c5Q a b c n w _ rfl
 ·exact c5R a b c n w _ rfl
structure b6G(w:World)(g:Nat):Prop where
 c0:w.cell? ⟨g,0,none⟩=some (.int .i64 0)
 c1:w.cell? ⟨g,1,none⟩=some (.int .i64 0)
 fz:∀o,w.frozen? ⟨g,o,none⟩=false
theorem b6G.below{w w':World}{g B:Nat}(h:b6G w g)(b:Below B w w')(c:g<B):b6G w' g:=
 ⟨(e_ (w:=w) (a:=(a__ g 0)) (b.block g c)).trans h.c0,(e_ (w:=w) (a:=(a__ g 1)) (b.block g c)).trans h.c1,fun o=>(I_ (w:=w) (a:=(a__ g o)) (b.block g c)).trans (h.fz o)⟩
@[reducible] def a7R(r:Int×Int):Value:= .agg #[.int .i64 r.1,.int .i64 r.2]
theorem c0z(l:List Ic)(b:Option Addr)(a:Nat)(w:World)(h:2000<l.length):
  Calls prog 89 #[.slice b l.length a] w fun e w'=>e= .returned (a7R (a0x l))∧B__ w w':=by
 have c:a0x l=(4,0):=by unfold a0x;rw[n_ h]
 have d:decide ((2000:Int)<(l.length:Int))=true:=by simp;omega
 rw[c];go_enter func89,ntmps89;go_wp2_with fail;refine m_ (v:=a7R (4,0)) (by simp[results,results89,go_sem]) rfl ⟨rfl,?_⟩;exact(g_ _ _).alloc (a_ _) _
theorem c0A(l:List Ic)(b:Option Addr)(a:Nat)(w:World)(h:l.length=0):
  Calls prog 89 #[.slice b l.length a] w fun e w'=>e= .returned (a7R (a0x l))∧B__ w w':=by
 have c:a0x l=(7,0):=by unfold a0x;rw[f_ (by omega),n_ h]
 rw[c,h];go_enter func89,ntmps89;go_wp2_with fail;refine m_ (v:=a7R (7,0)) (by simp[results,results89,go_sem]) rfl ⟨rfl,?_⟩;exact(g_ _ _).alloc (a_ _) _
theorem c0B(l:List Ic)(g o:Nat)(O:Nat)(w:World)(m:Nat)(hm:l.length=m+1)(hl:m<2000)(T:a0D w (some (a__ g o)) g o l):
  Calls prog 89 #[.slice (some (a__ g o)) (m+1) O] w fun e w'=>e= .returned (a7R (a0x l))∧B__ w w':=by
 have U:a0x l=a4e l.length (l.drop 0) 0:=by unfold a0x;rw[f_ (by omega),f_ (by omega)];rfl
 have t1:decide ((2000:Int)<(m:Int)+1)=false:=by simp;omega
 have t2:((m:Int)+1==0)=false:=by rw[p_];omega
 generalize hy:a0x l=y at*;have V:=h__ U.symm;have S:=h__ T;clear hy U T;have u:B__ w (w.alloc (.cells #[i_ 0,i_ 0] 158)):=(g_ _ _).alloc (a_ _) _;have z:b6G (w.alloc (.cells #[i_ 0,i_ 0] 158)) w.heap.size:=by
  refine⟨?_,?_,fun o=> ?_⟩<;>simp[go_sem]
 have D:w.heap.size<(w.alloc (.cells #[i_ 0,i_ 0] 158)).heap.size:=by simp
 go_enter func89,ntmps89;go_upto_region 1 with fail;generalize (w.alloc (.cells #[i_ 0,i_ 0] 158))=W at*;go_wp2_with fail;go_loopw [16] (fun x w'=>∃k:Nat,x=i_ k∧k≤m+1∧Hid (B__ w w')∧Hid (b6G w' w.heap.size)∧w.heap.size<w'.heap.size∧Hid (a4e l.length (l.drop (min k m)) (min k m)=y)∧Hid (k=m+1→a0I (l[m]'(by omega)) l.length=true)) (fun x _=>m+1-(intOf x).toNat);case atStart=>exact⟨0,rfl,by omega,u,z,D,by show _=_;rw[Nat.zero_min];exact V.out,fun P=>absurd P (by omega)⟩
 case round=>
  obtain⟨k,rfl,P,i,E,Aa,F,G⟩:=hrel;clear u z D;by_cases Z:k<m+1
  ·have tk:decide ((k:Int)<(m:Int)+1)=true:=by simp;omega
   have h:k<l.length:=by omega
   obtain⟨_,j,J,L,M,N⟩:=S.out k h;rw[←i.out.cell (p:=(a__ g (o+k*4))) j]at J;rw[←i.out.cell (p:=(a__ g (o+k*4+1))) j]at L;rw[←i.out.cell (p:=(a__ g (o+k*4+2))) j]at M;rw[←i.out.cell (p:=(a__ g (o+k*4+3))) j]at N;have C:min k m=k:=by omega
   have f:Hid (a4e l.length (l.drop k) k=y):=by have:=F.out;rw[C]at this;exact this
   clear C F G;have B:(l.length:Int)=(m:Int)+1:=by omega
   cases a:a0I l[k] l.length with
   |false=>
    have t:Hid _:=(b6a h a).symm.trans f.out;generalize l[k]=p at*;rw[B]at a;go_wp2_with (go_at_call 122;refine(b64 p _ _).mono ?_;rw[a];rintro e n ⟨rfl,c⟩;have b:Hid (Below (w.heap.size+1) wr n):=(by rw[c];exact((g_ _ _).alloc (by omega) _).alloc (by simp;omega) _);have R:wr.heap.size≤n.heap.size:=b.out.size;obtain⟨q,r,s⟩:=E.out.below b.out (by omega);clear c);rw[←t.out];refine m_ (v:=a7R (7,(k:Int))) (by simp[results,results89,go_sem,q,r,s]) rfl ⟨rfl,?_⟩;exact((i.out.trans (b.out.mono (by omega))).setCell (by simp only;omega) _).setCell (by simp only;omega) _
   |true=>
    have I:Hid (a4e l.length (l.drop (min (k+1) m)) (min (k+1) m)=y):=by
     show _=_;by_cases X:k+1<l.length
     ·rw[show min (k+1) m=k+1 by omega,←b0Z h a (.inl X)];exact f.out
     ·rw[show min (k+1) m=k by omega];exact f.out
    have H:Hid (k+1=m+1→a0I (l[m]'(by omega)) l.length=true):=by
     intro Y;have e:l[m]'(by omega)=l[k]:=by congr 1;omega
     rw[e];exact a
    generalize l[k]=p at*;rw[B]at a;go_wp2_with (go_at_call 122;refine(b64 p _ _).mono ?_;rw[a];rintro e n ⟨rfl,c⟩;have b:Hid (Below (w.heap.size+1) wr n):=(by rw[c];exact((g_ _ _).alloc (by omega) _).alloc (by simp;omega) _);have R:wr.heap.size≤n.heap.size:=b.out.size;obtain⟨q,r,s⟩:=E.out.below b.out (by omega);clear c);go_roundw;case rel=>exact⟨k+1,by go_num,by omega,i.out.trans (b.out.mono (by omega)),⟨q,r,s⟩,by omega,I,H⟩
    case measure=>simp[intOf];omega
  ·have tk:decide ((k:Int)<(m:Int)+1)=false:=by simp;omega
   have h:k=m+1:=by omega
   have f:Hid (a4e l.length (l.drop m) m=y):=by have:=F.out;rw[show min k m=m by omega]at this;exact this
   have A:m<l.length:=by omega
   have a:a0I l[m] l.length=true:=G.out h;obtain⟨_,j,J,L,M,N⟩:=S.out m A;rw[←i.out.cell (p:=(a__ g (o+m*4))) j]at J;rw[←i.out.cell (p:=(a__ g (o+m*4+1))) j]at L;rw[←i.out.cell (p:=(a__ g (o+m*4+2))) j]at M;rw[←i.out.cell (p:=(a__ g (o+m*4+3))) j]at N;clear F G h P;cases d:a4A l[m]with
   |false=>
    have t:Hid _:=(b6b (by omega) d).symm.trans f.out;generalize l[m]=p at*;clear a;go_wp2_with (go_at_call 123;refine(b1j p _).mono ?_;rw[d];rintro e n ⟨rfl,c⟩;have b:Hid (Below (w.heap.size+1) wr n):=(by rw[c];exact(g_ _ _).alloc (by omega) _);obtain⟨q,r,s⟩:=E.out.below b.out (by omega);clear c);rw[←t.out];refine m_ (v:=a7R (7,(m:Int))) (by simp[results,results89,go_sem,q,r,s]) rfl ⟨rfl,?_⟩;exact((i.out.trans (b.out.mono (by omega))).setCell (by simp only;omega) _).setCell (by simp only;omega) _
   |true=>
    have t:Hid ((0,0)=y):=by
     have:=f.out;rw[b0Z A a (.inr d),List.drop_eq_nil_of_le (by omega)]at this;exact this
    generalize l[m]=p at*;clear a;go_wp2_with (go_at_call 123;refine(b1j p _).mono ?_;rw[d];rintro e n ⟨rfl,c⟩;have b:Hid (Below (w.heap.size+1) wr n):=(by rw[c];exact(g_ _ _).alloc (by omega) _);obtain⟨q,r,s⟩:=E.out.below b.out (by omega);clear c);rw[←t.out];refine m_ (v:=a7R (0,0)) (by simp[results,results89,go_sem,q,r,s]) rfl ⟨rfl,?_⟩;exact((i.out.trans (b.out.mono (by omega))).setCell (by simp only;omega) _).setCell (by simp only;omega) _
theorem a9n(l:List Ic)(b:Option Addr)(g o a:Nat)(w:World)(c:a0D w b g o l):
  Calls prog 89 #[.slice b l.length a] w fun e w'=>e= .returned (a7R (a0x l))∧B__ w w':=by
 by_cases h:2000<l.length
 ·exact c0z l b a w h
 by_cases d:l.length=0
 ·exact c0A l b a w d
 ·obtain⟨rfl,_⟩:=c 0 (by omega);have:=c0B l g o a w (l.length-1) (by omega) (by omega) c;rwa[show l.length-1+1=l.length by omega]at this
theorem b4a(l:List Ic)(r:Option Addr)(g o j:Nat)(w:World)(t:a0D w r g o l):
  Calls prog 57 #[.slice r l.length j] w fun e w'=>e= .returned (.tuple #[i_ (a0x l).1,i_ (a0x l).2])∧B__ w w':=by
 have z:Hid (∀w',B__ w w'→Calls prog 89 #[.slice r l.length j] w' fun e s=>e= .returned (a7R (a0x l))∧B__ w' s):=fun w' A=>a9n l r g o j w' (t.below A)
 generalize a0x l=y at*;clear t;go_enter func57,ntmps57;go_upto_region 2 with(go_at_call 89;refine(z.out _ (g_ _ _)).mono ?_;rintro e p ⟨rfl,m⟩);have B:(p.alloc (.cells #[i_ y.1,i_ y.2] 158)).cell? (a__ p.heap.size 0)=some (i_ y.1):=by simp[go_sem]
 have C:(p.alloc (.cells #[i_ y.1,i_ y.2] 158)).cell? (a__ p.heap.size 1)=some (i_ y.2):=by simp[go_sem]
 have u:Hid (B__ w (p.alloc (.cells #[i_ y.1,i_ y.2] 158))):=m.alloc m.size _;generalize (p.alloc (.cells #[i_ y.1,i_ y.2] 158))=W at*;clear m;go_region;all_goals go_wp2_with fail
 all_goals go_ret2
 all_goals exact⟨rfl,u.out.drew⟩
open Go.WideShapes (add_plain)
theorem c1v{P:Program}(w:World)(q C D d:TypeId)(p:Nat)(g c f:Nat)(a:Addr)(b l:Nat)(e:Array Value)(t:TypeId)(cs:List Value)
  (B:P.underlying q=some (.slice d)) (r:(P.info? d).map (·.size)=some p)
  (u:w.heap[g]? =some (.cells e t (0,0))) (m:b≤c) (A:cs.length=b*p)
  (k:∀j v,cs[j]? =some v→w.cell? (a.add j)=some v) (h:cs.length≤e.size) (s:∀v∈cs,v.oneCell'=true):
  (Builtin.copy_ #[q,C] D #[.slice (some (a__ g 0)) c f,.slice (some a) b l]).run P w=
   .ok (goInt b) (w.setRow g (cs++e.toList.drop cs.length).toArray):=by
 have y:=run_loadCells_list (P:=P) w a cs k;have o:=run_storeCells_at P g 0 t cs 0 e w u (by simpa using h) s;have z:Nat.min b c=b:=Nat.min_eq_left m;cases n:P.info? d with
 |none=>simp[n]at r
 |some i=>
  have x:i.size=p:=by simpa[n]using r
  simp[Builtin.copy_,run_underlying B,Builtin.lenOf,Builtin.firstCells,sizeOf,typeInfo,n,x,z,←A,y,o]
theorem c1w{P:Program}(w:World)(g m o b:TypeId)(n:Nat)(d a:Option Addr)(e c f:Nat)
  (l:P.underlying g=some (.slice b)) (k:(P.info? b).map (·.size)=some n):
  (Builtin.copy_ #[g,m] o #[.slice d e c,.slice a 0 f]).run P w= .ok (goInt 0) w:=by
 cases h:P.info? b with
 |none=>simp[h]at k
 |some i=>
  have j:∀(x:Addr),(loadCells x 0).run P w= .ok #[] w:=fun x=>by simpa using run_loadCells_list (P:=P) w x [] (by simp)
  cases d<;>cases a<;>simp[Builtin.copy_,run_underlying l,Builtin.lenOf,Builtin.firstCells,sizeOf,typeInfo,h,storeCells,j]
theorem b0j{P:Program}(w:World)(n s x c:TypeId)(o:Nat)(z:P.underlying n=some (.slice c))(l:(P.info? c).map (·.size)=some o)
  (u:Option Addr) (g b d a e:Nat) (f:List Value) (t:TypeId) (q:w.heap[g]? =some (.cells f.toArray t (0,0))) (cs:List Value) (r:a≤b) (E:cs.length=a*o) (C:a=0→cs= [])
  (i:0<a→∃m,u=some m∧∀j v,cs[j]? =some v→w.cell? (m.add j)=some v)
  (h:cs.length≤f.length) (D:∀v∈cs,v.oneCell'=true) (B:Nat) (A:World) (y:Below B A w) (p:B≤g):
  ∃w',(Builtin.copy_ #[n,s] x #[.slice (some (a__ g 0)) b d,.slice u a e]).run P w= .ok (i_ a) w'∧w'.heap[g]? =some (.cells (cs++f.drop cs.length).toArray t (0,0))∧Below B A w':=by
 by_cases F:a=0
 ·subst F;obtain rfl:=C rfl;exact⟨w,c1w (P:=P) w n s x c o (some (a__ g 0)) u b d e z l,by simpa using q,y⟩
 ·obtain⟨m,rfl,k⟩:=i (by omega);exact⟨_,c1v (P:=P) w n s x c o g b d m a e f.toArray t cs z l q r E k (by simpa using h) D,by simpa using a_N w g _ _ t _ q,below_setRow y p _⟩
theorem a4k{p:Program}{t:TypeId}{z:Value}{a b:Nat}(h:(p.info? t).map (fun i=>(i.zero,i.size,i.bytes))=some (some z,a,b)):∃i,p.info? t=some i∧i.zero=some z∧i.size=a∧i.bytes=b:=by
 cases e:p.info? t with
 |none=>rw[e]at h;cases h
 |some i=>rw[e]at h;simp at h;exact⟨i,rfl,h.1,h.2.1,h.2.2⟩
theorem a1p{w:World}{g:Nat}{L:List Value}{t:TypeId}{a:Nat×Nat}(h:w.heap[g]? =some (.cells L.toArray t a))(k:Nat)(v:Value):(w.setCell (a__ g k) v).heap[g]? =some (.cells (L.set k v).toArray t a):=by
 rw[setCell_eq_setRow w g k L.toArray t a v h,a_N w g _ _ t _ h];simp
theorem a35(cs z:List Value)(j:Nat)(v:Value):(cs++z).set (cs.length+j) v=cs++z.set j v:=by
 rw[List.set_append_right _ _ (by omega)];simp
theorem b7g:(prog.info? 87).map (·.size)=some 4:=by kernel_rfl
theorem c4w(n:Nat)(e:32*(n+2)≤281474976710656):∃Z:List Value,Z.length=(n+2)*4∧∀w:World,(Instr.makeSlice 36 (i_ ((n:Int)+2)) (i_ ((n:Int)+2))).run prog w= .ok (.slice (some (a__ w.heap.size 0)) (n+2) (n+2)) (w.alloc (.cells Z.toArray 87)):=by
 obtain⟨i,b,d,c,a⟩:=a4k b4v;refine⟨(madeCells #[i_ 0,i_ 0,i_ 0,i_ 0] ((n+2)*4)).toList,by simp[size_madeCells],fun w=> ?_⟩;have k:=run_make (P:=prog) w 36 87 i _ underlying36 b d .i64 .i64 ((n:Int)+2) ((n:Int)+2) (by omega) (by omega) (by rw[a];omega) (by omega);rw[c,show((n:Int)+2).toNat=n+2 by omega]at k;rw[k];rfl
@[reducible] def a6Y:List Value:= [.int .i64 77,.int .i64 0,.int .i64 0,.int .i64 0,.int .i64 77,.int .i64 0,.int .i64 0,.int .i64 0]
theorem c7r(z:List Value)(h:z.length=8):∃a b c d e f g i,z= [a,b,c,d,e,f,g,i]:=by
 match z,h with
 | [a,b,c,d,e,f,g,i],_=>exact⟨a,b,c,d,e,f,g,i,rfl⟩
theorem c2j(cs:List Value)(n:Nat)(h:cs.length=n*4)(a b c d e f g i:Value):
  ((((((((cs++ [a,b,c,d,e,f,g,i]).set (n*4) (i_ 77)).set (n*4+1) (i_ 0)).set (n*4+2) (i_ 0)).set (n*4+3) (i_ 0)).set ((n+1)*4) (i_ 77)).set ((n+1)*4+1) (i_ 0)).set ((n+1)*4+2) (i_ 0)).set ((n+1)*4+3) (i_ 0)=cs++a6Y:=by
 rw[show(n+1)*4=n*4+4 by omega,←h];have k:=a35 cs [a,b,c,d,e,f,g,i] 0 (i_ 77);rw[a_P]at k;rw[k,a35,a35,a35,a35,show cs.length+4+1=cs.length+5 by omega,a35,show cs.length+4+2=cs.length+6 by omega,a35,show cs.length+4+3=cs.length+7 by omega,a35];rfl
theorem b0i(l:List Ic)(z:Option Addr)(g o t:Nat)(w:World)(C:a0D w z g o l)(hn:32*(l.length+2)≤281474976710656):
  Calls prog 56 #[.slice z l.length t] w fun e w'=>e= .returned (.slice (some (a__ w.heap.size 0)) l.length (l.length+2))∧w'.heap[w.heap.size]? =some (.cells (a0Q l++a6Y).toArray 87 (0,0))∧B__ w w':=by
 obtain⟨Z,hZ,E⟩:=c4w l.length hn;have s:=a3W l;have G:Hid (0<l.length→∃I,z=some I∧∀j v,(a0Q l)[j]? =some v→(w.alloc (.cells Z.toArray 87)).cell? (I.add j)=some v):=by
  intro h0;obtain⟨e0,_⟩:=C 0 h0;refine⟨_,e0,fun j v m=> ?_⟩;have hb:B__ w (w.alloc (.cells Z.toArray 87)):=(g_ _ _).alloc (a_ _) _;have Aa:j<l.length*4:=by rw[←s];exact(k_.mp m).1
  obtain⟨_,hg,O,R,S,T⟩:=C (j/4) (by omega);obtain⟨U,V,X,Y⟩:=a6P l (j/4) (by omega);rw[b_A,hb.cell (p:=(a__ g (o+j))) hg];rcases(show j=j/4*4∨j=j/4*4+1∨j=j/4*4+2∨j=j/4*4+3 by omega)with h|h|h|h
  ·rw[h]at m;rw[U]at m;rw[h];rw[←m];exact O
  ·rw[h]at m;rw[V]at m;rw[h];rw[←m];exact R
  ·rw[h]at m;rw[X]at m;rw[h];rw[←m];exact S
  ·rw[h]at m;rw[Y]at m;rw[h];rw[←m];exact T
 have N:Hid _:=b5u l;have M:Hid (l.length=0→a0Q l= []):=fun h=>a_o (by omega)
 generalize a0Q l=A at*;generalize hL:l.length=n at*;clear hL C;have H:Hid ((w.alloc (.cells Z.toArray 87)).heap[w.heap.size]? =some (.cells Z.toArray 87 (0,0))):=R_ w _;have F:Hid (B__ w (w.alloc (.cells Z.toArray 87))):=(g_ _ _).alloc (a_ _) _;go_enter func56,ntmps56;go_upto_region 3 with fail;generalize (w.alloc (.cells Z.toArray 87))=W at*;obtain⟨y,D,r,u⟩:=b0j (P:=prog) W 36 36 3 87 4 underlying36 b7g z w.heap.size (n+2) (n+2) n t Z 87 H.out A (by omega) (by omega) M.out G.out (by omega) N.out w.heap.size w F.out (a_ _);go_upto_region 4 with fail;obtain⟨a,b,c,d,e,f,h,i,J⟩:=c7r (Z.drop A.length) (by simp;omega);rw[J]at r;have q:∀j v,([a,b,c,d,e,f,h,i]:List Value)[j]? =some v→y.cell? (a__ w.heap.size (n*4+j))=some v:=by
  intro j v m;rw[F_ _ _ _ _ _ _ r,←s];simp[V_,m]
 have fz:∀o,y.frozen? (a__ w.heap.size o)=false:=by intro o;simp[World.frozen?,r]
 have q0:=q 0 a rfl;have q1:=q 1 b rfl;have q2:=q 2 c rfl;have q3:=q 3 d rfl;have q4:=q 4 e rfl;have q5:=q 5 f rfl;have q6:=q 6 h rfl;have q7:=q 7 i rfl;rw[a_P]at q0;rw[show n*4+4=(n+1)*4 by omega]at q4;rw[show n*4+5=(n+1)*4+1 by omega]at q5;rw[show n*4+6=(n+1)*4+2 by omega]at q6;rw[show n*4+7=(n+1)*4+3 by omega]at q7;have L:Hid (y.heap[w.heap.size]? =some (.cells (A++ [a,b,c,d,e,f,h,i]).toArray 87 (0,0))):=r;have B:Hid (B__ w y):=u;clear q D r u J E G H F;go_wp2_with fail;go_ret;refine⟨rfl,?_,?_⟩
 ·have k:=a1p (a1p (a1p (a1p (a1p (a1p (a1p (a1p L.out (n*4) (i_ 77)) (n*4+1) (i_ 0)) (n*4+2) (i_ 0)) (n*4+3) (i_ 0)) ((n+1)*4) (i_ 77)) ((n+1)*4+1) (i_ 0)) ((n+1)*4+2) (i_ 0)) ((n+1)*4+3) (i_ 0);rw[c2j A n s]at k;exact k
 ·exact(((((((B.out.setCell (by simp) _).setCell (by simp) _).setCell (by simp) _).setCell (by simp) _).setCell (by simp) _).setCell (by simp) _).setCell (by simp) _).setCell (by simp) _
theorem b74(l:List Ic)(s t:Option Addr)(g o u z C j:Nat)(w:World)(A:a0D w s g o l)(B:a0D w t z C l)(V:32*(l.length+2)≤281474976710656):
  Calls prog 92 #[.slice s l.length u,.slice t l.length j] w fun e w'=>e= .returned T__∧B__ w w':=by
 have y:Hid (a0D w s g o l):=A;have E:Hid (a0D w t z C l):=B;clear A B;have t0:((l.length:Int) !=(l.length:Int))=false:=by simp
 go_enter func92,ntmps92;go_wp2_with fail;go_loopw [5] (fun x w'=>∃k:Nat,x=i_ k∧k≤l.length∧Hid (B__ w w')) (fun x _=>l.length-(intOf x).toNat);case atStart=>exact⟨0,rfl,by omega,g_ _ _⟩
 case round=>
  obtain⟨k,rfl,U,r⟩:=hrel;by_cases m:k<l.length
  ·have S:decide ((k:Int)<(l.length:Int))=true:=by simp;omega
   obtain⟨O,T,F,G,H,I⟩:=y.out.below r.out k m;obtain⟨P,R,J,L,M,N⟩:=E.out.below r.out k m;have D:Hid (a0D w s g o l):=y;subst O P;generalize l[k]=p at*;obtain⟨po,X,Y,Z⟩:=p;simp only at F G H I J L M N;go_upto_region 6 with fail;go_region;all_goals go_wp2_with fail
   all_goals go_roundw
   case rel=>exact⟨k+1,by go_num,by omega,r.out.drew⟩
   case measure=>simp[intOf];omega
  ·have S:decide ((k:Int)<(l.length:Int))=false:=by simp;omega
   go_wp2_with fail;go_ret;exact⟨rfl,r.out⟩
theorem a7c{w:World}{g:Nat}{l:List Ic}{t:TypeId}{r:List Value}(h:w.heap[g]? =some (.cells (a0Q l++r).toArray t (0,0))):a0D w (some (a__ g 0)) g 0 l:=by
 have f:=a3W l;intro i e;obtain⟨a,b,c,d⟩:=a6P l i e;refine⟨rfl,(z_.mp h).1,?_,?_,?_,?_⟩
 ·rw[F_ _ _ _ _ _ _ h,a_m];simp only[a_h];rw[S_ (by omega)];exact a
 ·rw[F_ _ _ _ _ _ _ h,a_m];simp only[a_h];rw[S_ (by omega)];exact b
 ·rw[F_ _ _ _ _ _ _ h,a_m];simp only[a_h];rw[S_ (by omega)];exact c
 ·rw[F_ _ _ _ _ _ _ h,a_m];simp only[a_h];rw[S_ (by omega)];exact d
theorem a8p(l:List Ic)(s:Nat)(z:Option Addr)(g o u:Nat)(w:World)(y:w.heap[s]? =some (.cells (a0Q l++a6Y).toArray 87 (0,0)))(A:a0D w z g o l)(G:32*(l.length+2)≤281474976710656):
  Calls prog 59 #[.slice (some (a__ s 0)) l.length (l.length+2),.slice z l.length u] w fun e w'=>e= .returned T__∧B__ w w':=by
 have C:Hid (Calls prog 92 #[.slice (some (a__ s 0)) l.length (l.length+2),.slice z l.length u] w fun e w'=>e= .returned T__∧B__ w w'):=b74 l _ _ s 0 _ g o _ w (a7c y) A G;have r:s<w.heap.size:=(z_.mp y).1;have F:=a3W l;have q:∀j v,a6Y[j]? =some v→w.cell? (a__ s (l.length*4+j))=some v:=by
  intro j v E;rw[F_ _ _ _ _ _ _ y,←F];simp only[a_h];rw[V_ (by omega),a_I];exact E
 generalize D:l.length=n at*;have t:Hid (∀j v,a6Y[j]? =some v→w.cell? (a__ s (n*4+j))=some v):=q;clear D q A y;go_enter func59,ntmps59;go_wp2_with (go_at_call 92;refine C.out.mono ?_;rintro e N ⟨rfl,m⟩;have B:Hid (B__ w N):=m;have H:=(m.cell (p:=(a__ s (n*4+0))) r).trans (t.out 0 _ rfl);rw[a_P]at H;have O:=(m.cell (p:=(a__ s (n*4+1))) r).trans (t.out 1 _ rfl);have P:=(m.cell (p:=(a__ s (n*4+2))) r).trans (t.out 2 _ rfl);have R:=(m.cell (p:=(a__ s (n*4+3))) r).trans (t.out 3 _ rfl);have I:=(m.cell (p:=(a__ s (n*4+4))) r).trans (t.out 4 _ rfl);rw[show n*4+4=(n+1)*4 by omega]at I;have J:=(m.cell (p:=(a__ s (n*4+5))) r).trans (t.out 5 _ rfl);rw[show n*4+5=(n+1)*4+1 by omega]at J;have L:=(m.cell (p:=(a__ s (n*4+6))) r).trans (t.out 6 _ rfl);rw[show n*4+6=(n+1)*4+2 by omega]at L;have M:=(m.cell (p:=(a__ s (n*4+7))) r).trans (t.out 7 _ rfl);rw[show n*4+7=(n+1)*4+3 by omega]at M;clear m);go_ret;exact⟨rfl,B.out⟩
theorem b9m(l:List Ic)(m:Option Addr)(g o j:Nat)(w:World)(J:a0D w m g o l)(L:32*(l.length+2)≤281474976710656):
  Calls prog 31 #[.slice m l.length j] w fun e w'=>e= .returned T__∧B__ w w':=by
 have G:Hid (a0D w m g o l):=J;have I:Hid (∀m g o j (w:World),a0D w m g o l→Calls prog 57 #[.slice m l.length j] w fun e w'=>e= .returned (.tuple #[i_ (a0x l).1,i_ (a0x l).2])∧B__ w w'):=fun m g o j w h=>b4a l m g o j w h
 have H:Hid (∀m g o j (w:World),a0D w m g o l→Calls prog 58 #[.slice m l.length j] w fun e w'=>e= .returned (.tuple #[i_ (a0x l).1,i_ (a0x l).2])∧B__ w w'):=fun m g o j w h=>a5Z l m g o j w h
 generalize a0x l=y at*;obtain⟨S,T⟩:=y;simp only at I H;clear J;go_enter func31,ntmps31;go_wp2_with (first|(go_at_call 56;refine(b0i l m g o j _ G.out L).mono ?_;rintro e E ⟨rfl,t,z⟩;have u:Hid (E.heap[w.heap.size]? =some (.cells (a0Q l++a6Y).toArray 87 (0,0))):=t;have s:Hid (B__ w E):=z;have D:w.heap.size<E.heap.size:=(z_.mp t).1;clear t z)|(go_at_call 57;refine(I.out _ w.heap.size 0 _ _ (a7c u.out)).mono ?_;rintro e M ⟨rfl,A⟩;have p:Hid (B__ E M):=A;clear A)|(go_at_call 58;refine(H.out _ g o _ _ ((G.out.below s.out).below p.out)).mono ?_;rintro e N ⟨rfl,B⟩;have r:Hid (B__ M N):=B;clear B)|(go_at_call 59;refine(a8p l w.heap.size m g o j _ (by rw[r.out.block _ (Q_ D p.out.size),p.out.block _ D];exact u.out) (((G.out.below s.out).below p.out).below r.out) L).mono ?_;rintro e O ⟨rfl,C⟩;have F:Hid (B__ N O):=C;clear C));go_ret;refine⟨rfl,?_⟩;have P:=p.out.size;have R:=r.out.size;exact((s.out.trans (p.out.mono (by omega))).trans (r.out.mono (by omega))).trans (F.out.mono (by omega))
end Go.Proofs.YtdgmoiflahoihaaGreatDoor
