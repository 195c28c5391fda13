import Derived.Test.YtdgmoiflahoihaaGreatDoorROpenw
import Derived.RowKit

set_option linter.unusedSimpArgs false
set_option linter.unusedVariables false
set_option maxRecDepth 100000
set_option maxHeartbeats 8000000
namespace Go.Proofs.YtdgmoiflahoihaaGreatDoor
open Go.RowKit
structure Vl where
 num:Int
 fault:Int
def fits(x:Int):Bool:=decide (-9223372036854775808≤x)&&decide (x≤9223372036854775807)
theorem a3o(x:Int):fits x=true↔ -9223372036854775808≤x∧x≤9223372036854775807:=by simp[fits]
theorem c39(x:Int):fits x=false↔ ¬(-9223372036854775808≤x∧x≤9223372036854775807):=by
 rw[←a3o];simp
def a1X(x:Int):Vl:=if fits x then⟨x,0⟩else⟨0,1⟩
theorem a9z{x:Int}(h: -9223372036854775808≤x∧x≤9223372036854775807):a1X x=⟨x,0⟩:=by
 unfold a1X;rw[n_ ((a3o x).mpr h)]
theorem b3a{x:Int}(h:¬(-9223372036854775808≤x∧x≤9223372036854775807)):a1X x=⟨0,1⟩:=by
 unfold a1X;rw[f_ (by rw[a3o];exact h)]
structure a0S(v:Vl):Prop where
 num: -9223372036854775808≤v.num∧v.num≤9223372036854775807
 fault:0≤v.fault∧v.fault≤2
 none:v.fault≠0→v.num=0
theorem a61(x:Int):a0S (a1X x):=by
 unfold a1X
 split
 ·rename_i h;exact⟨(a3o x).mp h,by simp,by simp⟩
 ·exact⟨by simp,by simp,by simp⟩
open Go.Proofs.Tryz
def a6M(a b:Int):Vl:=if b=0 then⟨0,2⟩else a1X (a.tdiv b)
def a7J(a b:Int):Vl:=if b=0 then⟨0,2⟩else⟨a.tmod b,0⟩
def a6i(c a b:Int):Vl:=
 if c=4 then a1X (a+b)else if c=5 then a1X (a-b)else if c=6 then a1X (a*b)
 else if c=7 then a6M a b else if c=8 then a7J a b
 else if c=9 then⟨if a<b then 1 else 0,0⟩else if c=10 then⟨if a=b then 1 else 0,0⟩else⟨0,0⟩
def opV(a:Int)(x y:Vl):Vl:=if x.fault≠0 then x else if y.fault≠0 then y else a6i a x.num y.num
def a4E(x:Vl):Vl:=if x.fault≠0 then x else a1X (0-x.num)
theorem c57(x:Vl):a4E x=opV 5 ⟨0,0⟩ x:=by
 unfold a4E opV a6i;simp
theorem b9X{a b:Int}(f: -9223372036854775808≤a∧a≤9223372036854775807)(g:b≠0): -9223372036854775808≤a.tmod b∧a.tmod b≤9223372036854775807:=by
 rcases Int.le_total 0 a with h|h
 ·have c:=Int.tmod_nonneg b h;have d:a.tmod b≤a:=by
   have:=Int.natAbs_tmod a b;have e:a.natAbs%b.natAbs≤a.natAbs:=Nat.mod_le _ _;omega
  omega
 ·have c:a.tmod b≤0:=by
   have:=Int.tmod_nonneg b (a:= -a) (by omega);rw[Int.neg_tmod]at this;omega
  have d:a≤a.tmod b:=by
   have:=Int.natAbs_tmod a b;have e:a.natAbs%b.natAbs≤a.natAbs:=Nat.mod_le _ _;omega
  omega
theorem b9u(a b:Int):a0S (a6M a b):=by
 unfold a6M
 split
 ·exact⟨by simp,by simp,by simp⟩
 ·exact a61 _
theorem b9N{a:Int}(b:Int)(c: -9223372036854775808≤a∧a≤9223372036854775807):a0S (a7J a b):=by
 unfold a7J
 split
 ·exact⟨by simp,by simp,by simp⟩
 ·rename_i h;exact⟨b9X c h,by simp,by simp⟩
theorem c4G(d:Int){a:Int}(b:Int)(c: -9223372036854775808≤a∧a≤9223372036854775807):a0S (a6i d a b):=by
 unfold a6i
 split
 ·exact a61 _
 split
 ·exact a61 _
 split
 ·exact a61 _
 split
 ·exact b9u a b
 split
 ·exact b9N b c
 split
 ·split<;>exact⟨by simp,by simp,by simp⟩
 split
 ·split<;>exact⟨by simp,by simp,by simp⟩
 ·exact⟨by simp,by simp,by simp⟩
theorem c2x(b:Int){x y:Vl}(a:a0S x)(c:a0S y):a0S (opV b x y):=by
 unfold opV
 split
 ·exact a
 split
 ·exact c
 ·exact c4G b _ a.num
theorem b9F{x:Vl}(a:a0S x):a0S (a4E x):=by
 unfold a4E
 split
 ·exact a
 ·exact a61 _
def opC(c:UInt8)(x y:Vl):Vl:=
 if x.fault≠0 then x else if y.fault≠0 then y
 else if c==43 then a1X (x.num+y.num)else if c==45 then a1X (x.num-y.num)else if c==42 then a1X (x.num*y.num)
 else if c==60 then⟨if x.num<y.num then 1 else 0,0⟩else if c==61 then⟨if x.num=y.num then 1 else 0,0⟩
 else if c==47 then a6M x.num y.num else a7J x.num y.num
abbrev vlV(v:Vl):Value:= .agg #[.int .i64 v.num,.int .i64 v.fault]
def a1U(f:Nat)(a:Array Value)(v:Vl):Prop:=∀w,Calls prog f a w fun e w'=>e= .returned (vlV v)∧Below w.heap.size w w'
theorem a0G{w w1:World}{t:TypeId}(h:Below (w.alloc (.cells #[.int .i64 0,.int .i64 0] t)).heap.size (w.alloc (.cells #[.int .i64 0,.int .i64 0] t)) w1):
  w1.cell? ⟨w.heap.size,0,none⟩=some (.int .i64 0)∧w1.cell? ⟨w.heap.size,1,none⟩=some (.int .i64 0)∧(∀o,w1.frozen? ⟨w.heap.size,o,none⟩=false)∧Below w.heap.size w w1:=by
 have hlt:w.heap.size<(w.alloc (.cells #[.int .i64 0,.int .i64 0] t)).heap.size:=by simp
 refine⟨?_,?_,fun o=> ?_,((g_ _ _).alloc (a_ _) _).trans (h.mono (by simp))⟩
 ·rw[h.cell (p:=⟨w.heap.size,0,none⟩) hlt];simp[go_sem]
 ·rw[h.cell (p:=⟨w.heap.size,1,none⟩) hlt];simp[go_sem]
 ·rw[h.frozen (p:=⟨w.heap.size,o,none⟩) hlt];simp[go_sem]
theorem a1G{w w1:World}(h:B__ w w1)(x y:Value):B__ w ((w1.setCell (a__ w.heap.size 0) x).setCell (a__ w.heap.size 1) y):=
 (h.setCell (a_ _) _).setCell (a_ _) _
theorem a1a(n:Int):a1U 100 #[i_ n] ⟨n,0⟩:=by
 intro w;go_enter func100,ntmps100;go_wp2_with fail;exact m_ (v:=vlV ⟨n,0⟩) (by simp[results,results100,go_sem]) rfl ⟨rfl,by exact(g_ _ _).alloc (a_ _) _⟩
theorem a29(n:Int):a1U 191 #[i_ n] ⟨0,n⟩:=by
 intro w;go_enter func191,ntmps191;go_wp2_with fail;exact m_ (v:=vlV ⟨0,n⟩) (by simp[results,results191,go_sem]) rfl ⟨rfl,by exact(g_ _ _).alloc (a_ _) _⟩
theorem c5u(a b:Int)(l: -9223372036854775808≤a∧a≤9223372036854775807)(m: -9223372036854775808≤b∧b≤9223372036854775807):a1U 192 #[i_ a,i_ b] (a1X (a+b)):=by
 intro w;by_cases h: -9223372036854775808≤a+b∧a+b≤9223372036854775807
 ·rw[a9z h];go_enter func192,ntmps192;go_wp2_with (first|(go_at_call 100;refine(a1a _ _).mono ?_;rintro e k ⟨rfl,c⟩;obtain⟨g,i,j,d⟩:=a0G c;have f:=h__ d;clear c d)|(go_at_call 191;refine(a29 _ _).mono ?_;rintro e k ⟨rfl,c⟩;obtain⟨g,i,j,d⟩:=a0G c;have f:=h__ d;clear c d));all_goals exact m_ (v:=vlV ⟨a+b,0⟩) (by simp[results,results192,go_sem,g,i,j]) rfl ⟨rfl,by exact a1G f.out _ _⟩
 ·rw[b3a h];go_enter func192,ntmps192;go_wp2_with (first|(go_at_call 100;refine(a1a _ _).mono ?_;rintro e k ⟨rfl,c⟩;obtain⟨g,i,j,d⟩:=a0G c;have f:=h__ d;clear c d)|(go_at_call 191;refine(a29 _ _).mono ?_;rintro e k ⟨rfl,c⟩;obtain⟨g,i,j,d⟩:=a0G c;have f:=h__ d;clear c d));all_goals exact m_ (v:=vlV ⟨0,1⟩) (by simp[results,results192,go_sem,g,i,j]) rfl ⟨rfl,by exact a1G f.out _ _⟩
theorem b9U(a b:Int)(l: -9223372036854775808≤a∧a≤9223372036854775807)(m: -9223372036854775808≤b∧b≤9223372036854775807):a1U 173 #[i_ a,i_ b] (a1X (a-b)):=by
 intro w;by_cases h: -9223372036854775808≤a-b∧a-b≤9223372036854775807
 ·rw[a9z h];go_enter func173,ntmps173;go_wp2_with (first|(go_at_call 100;refine(a1a _ _).mono ?_;rintro e k ⟨rfl,c⟩;obtain⟨g,i,j,d⟩:=a0G c;have f:=h__ d;clear c d)|(go_at_call 191;refine(a29 _ _).mono ?_;rintro e k ⟨rfl,c⟩;obtain⟨g,i,j,d⟩:=a0G c;have f:=h__ d;clear c d));all_goals exact m_ (v:=vlV ⟨a-b,0⟩) (by simp[results,results173,go_sem,g,i,j]) rfl ⟨rfl,by exact a1G f.out _ _⟩
 ·rw[b3a h];go_enter func173,ntmps173;go_wp2_with (first|(go_at_call 100;refine(a1a _ _).mono ?_;rintro e k ⟨rfl,c⟩;obtain⟨g,i,j,d⟩:=a0G c;have f:=h__ d;clear c d)|(go_at_call 191;refine(a29 _ _).mono ?_;rintro e k ⟨rfl,c⟩;obtain⟨g,i,j,d⟩:=a0G c;have f:=h__ d;clear c d));all_goals exact m_ (v:=vlV ⟨0,1⟩) (by simp[results,results173,go_sem,g,i,j]) rfl ⟨rfl,by exact a1G f.out _ _⟩
theorem b57(b:Bool):a1U 196 #[.bool b] ⟨if b then 1 else 0,0⟩:=by
 intro w
 cases b
 all_goals go_enter func196,ntmps196
 ·go_wp2_with (first|(go_at_call 100;refine(a1a _ _).mono ?_;rintro e s ⟨rfl,j⟩;obtain⟨o,p,r,l⟩:=a0G j;have m:Hid _:=l;clear j l))
  exact m_ (v:=vlV ⟨0,0⟩) (by simp[results,results196,go_sem,o,p,r]) rfl ⟨rfl,by exact a1G m.out _ _⟩
 ·go_wp2_with (first|(go_at_call 100;refine(a1a _ _).mono ?_;rintro e s ⟨rfl,j⟩;obtain⟨o,p,r,l⟩:=a0G j;have m:Hid _:=l;clear j l))
  exact m_ (v:=vlV ⟨1,0⟩) (by simp[results,results196,go_sem,o,p,r]) rfl ⟨rfl,by exact a1G m.out _ _⟩
theorem b30{w w1:World}{t:TypeId}{o1:Obj}(h:Below ((w.alloc o1).alloc (.cells #[.int .i64 0,.int .i64 0] t)).heap.size ((w.alloc o1).alloc (.cells #[.int .i64 0,.int .i64 0] t)) w1):
  w1.cell? ⟨w.heap.size+1,0,none⟩=some (.int .i64 0)∧w1.cell? ⟨w.heap.size+1,1,none⟩=some (.int .i64 0)∧(∀o,w1.frozen? ⟨w.heap.size+1,o,none⟩=false)∧Below w.heap.size w w1:=by
 obtain⟨h1,h2,h3,h4⟩:=a0G h
 rw[show(w.alloc o1).heap.size=w.heap.size+1 by simp]at*
 exact⟨h1,h2,h3,((g_ _ _).alloc (a_ _) _).trans (h4.mono (by omega))⟩
theorem c00{w w1:World}{t:TypeId}{o1 o2:Obj}(h:Below (((w.alloc o1).alloc o2).alloc (.cells #[.int .i64 0,.int .i64 0] t)).heap.size (((w.alloc o1).alloc o2).alloc (.cells #[.int .i64 0,.int .i64 0] t)) w1):
  w1.cell? ⟨w.heap.size+1+1,0,none⟩=some (.int .i64 0)∧w1.cell? ⟨w.heap.size+1+1,1,none⟩=some (.int .i64 0)∧(∀o,w1.frozen? ⟨w.heap.size+1+1,o,none⟩=false)∧Below w.heap.size w w1:=by
 obtain⟨h1,h2,h3,h4⟩:=b30 h
 rw[show(w.alloc o1).heap.size=w.heap.size+1 by simp]at*
 exact⟨h1,h2,h3,((g_ _ _).alloc (a_ _) _).trans (h4.mono (by omega))⟩
theorem a7N{a b:Bool}(h:a=b):Ending.returned (Value.bool a)=Ending.returned (Value.bool b):=by rw[h]
theorem b65{p:Int}{q:Prop} [Decidable q] (a:p≤0)(h:q↔ -9223372036854775808≤p):decide q=fits p:=by
 rw[M_,a3o,Y_,h];omega
theorem b66{p:Int}{q:Prop} [Decidable q] (a:0≤p)(h:q↔p≤9223372036854775807):decide q=fits p:=by
 rw[M_,a3o,Y_,h];omega
theorem b0a(n:Int)(h: -9223372036854775808≤n∧n≤9223372036854775807):wrap64 n=n:=by unfold wrap64;omega
theorem b7X{a b c:Int}(e:0<a)(f:0≤b)(d:0≤c):0≤c.tdiv a∧c.tdiv a≤c∧(b≤c.tdiv a↔b*a≤c):=by
 rw[Int.tdiv_eq_ediv_of_nonneg d];exact⟨Int.ediv_nonneg d (by omega),Int.ediv_le_self _ d,Int.le_ediv_iff_mul_le e⟩
theorem a9t(a b:Int)(l: -9223372036854775808≤a∧a≤9223372036854775807)(m: -9223372036854775808≤b∧b≤9223372036854775807)(w:World):
  Calls prog 202 #[i_ a,i_ b] w fun e w'=>e= .returned (.bool (fits (a*b)))∧w'=w:=by
 rcases Int.lt_trichotomy a 0 with g|g|g
 ·rcases Int.lt_trichotomy b 0 with d|d|d
  ·go_enter func202,ntmps202;go_wp2_with fail;go_ret;refine⟨a7N ?_,rfl⟩;have h:=b7X (a:= -a) (b:= -b) (c:=9223372036854775807) (by omega) (by omega) (by omega);rw[show(9223372036854775807:Int).tdiv a= -((9223372036854775807:Int).tdiv (-a))by rw[Int.tdiv_neg];omega];obtain⟨i,j,f⟩:=h;rw[b0a _ (by omega)];refine b66 ?_ ?_
   ·exact Int.mul_nonneg_of_nonpos_of_nonpos (by omega) (by omega)
   ·rw[Int.neg_mul_neg]at f;rw[Int.mul_comm]at f;omega
  ·subst d;go_enter func202,ntmps202;go_wp2_with fail;go_ret;exact⟨a7N (by simp[fits]),rfl⟩
  ·go_enter func202,ntmps202;go_wp2_with fail;go_ret;refine⟨a7N ?_,rfl⟩;obtain⟨i,j,f⟩:=b7X (a:=b) (b:= -a) (c:=9223372036854775808) (by omega) (by omega) (by omega);rw[b0a _ (by omega)];rw[Int.neg_mul]at f;exact b65 (Int.mul_nonpos_of_nonpos_of_nonneg (by omega) (by omega)) (by omega)
 ·subst g;go_enter func202,ntmps202;go_wp2_with fail;go_ret;exact⟨a7N (by simp[fits]),rfl⟩
 ·rcases Int.lt_trichotomy b 0 with d|d|d
  ·go_enter func202,ntmps202;go_wp2_with fail;go_ret;refine⟨a7N ?_,rfl⟩;obtain⟨i,j,f⟩:=b7X (a:=a) (b:= -b) (c:=9223372036854775808) (by omega) (by omega) (by omega);rw[b0a _ (by omega)];rw[Int.neg_mul,Int.mul_comm b a]at f;exact b65 (Int.mul_nonpos_of_nonneg_of_nonpos (by omega) (by omega)) (by omega)
  ·subst d;go_enter func202,ntmps202;go_wp2_with fail;go_ret;exact⟨a7N (by simp[fits]),rfl⟩
  ·have k:0≤a*b:=Int.mul_nonneg (by omega) (by omega);have h:=Int.le_ediv_iff_mul_le (a:=a) (b:=9223372036854775807) d;go_enter func202,ntmps202;go_wp2_with fail;go_ret;refine⟨a7N ?_,rfl⟩;exact b66 k Iff.rfl
theorem c49{a b:Int}(i: -9223372036854775808≤a∧a≤9223372036854775807)(j: -9223372036854775808≤b∧b≤9223372036854775807)(b0:¬b=0)(h:¬(-9223372036854775808≤a.tdiv b∧a.tdiv b≤9223372036854775807)):a= -9223372036854775808∧b= -1:=by
 have e:(a.tdiv b).natAbs=a.natAbs/b.natAbs:=Int.natAbs_tdiv a b;have f:a.natAbs/b.natAbs≤a.natAbs:=Nat.div_le_self _ _;by_cases d:b.natAbs=1
 ·by_cases c:b=1
  ·subst c;simp at h;omega
  ·have:b= -1:=by omega
   subst this;simp at h;omega
 ·have g:a.natAbs/b.natAbs≤a.natAbs/2:=Nat.div_le_div_left (by omega) (by omega);omega
theorem c5D(a b:Int)(p: -9223372036854775808≤a∧a≤9223372036854775807)(q: -9223372036854775808≤b∧b≤9223372036854775807):a1U 194 #[i_ a,i_ b] (a6M a b):=by
 intro w;by_cases l:b=0
 ·subst l;have m:a6M a 0=⟨0,2⟩:=rfl;rw[m];go_enter func194,ntmps194;go_wp2_with (first|(go_at_call 100;refine(a1a _ _).mono ?_;rintro e k ⟨rfl,c⟩;obtain⟨g,i,j,d⟩:=a0G c;have f:=h__ d;clear c d)|(go_at_call 191;refine(a29 _ _).mono ?_;rintro e k ⟨rfl,c⟩;obtain⟨g,i,j,d⟩:=a0G c;have f:=h__ d;clear c d));exact m_ (v:=vlV ⟨0,2⟩) (by simp[results,results194,go_sem,g,i,j]) rfl ⟨rfl,by exact a1G f.out _ _⟩
 ·by_cases h: -9223372036854775808≤a.tdiv b∧a.tdiv b≤9223372036854775807
  ·have m:a6M a b=⟨a.tdiv b,0⟩:=by unfold a6M;rw[f_ l,a9z h]
   rw[m];by_cases n:a= -9223372036854775808
   ·have o:¬b= -1:=by rintro rfl;subst n;exact absurd h (by decide)
    have s:(a== -9223372036854775808)=true:=by simpa using n
    have t:(b== -1)=false:=by simpa using o
    have r:(b==0)=false:=by simpa using l
    clear n;go_enter func194,ntmps194;go_wp2_with (first|(go_at_call 100;refine(a1a _ _).mono ?_;rintro e k ⟨rfl,c⟩;obtain⟨g,i,j,d⟩:=a0G c;have f:=h__ d;clear c d)|(go_at_call 191;refine(a29 _ _).mono ?_;rintro e k ⟨rfl,c⟩;obtain⟨g,i,j,d⟩:=a0G c;have f:=h__ d;clear c d));exact m_ (v:=vlV ⟨a.tdiv b,0⟩) (by simp[results,results194,go_sem,g,i,j]) rfl ⟨rfl,by exact a1G f.out _ _⟩
   ·have s:(a== -9223372036854775808)=false:=by simpa using n
    have r:(b==0)=false:=by simpa using l
    go_enter func194,ntmps194;go_wp2_with (first|(go_at_call 100;refine(a1a _ _).mono ?_;rintro e k ⟨rfl,c⟩;obtain⟨g,i,j,d⟩:=a0G c;have f:=h__ d;clear c d)|(go_at_call 191;refine(a29 _ _).mono ?_;rintro e k ⟨rfl,c⟩;obtain⟨g,i,j,d⟩:=a0G c;have f:=h__ d;clear c d));exact m_ (v:=vlV ⟨a.tdiv b,0⟩) (by simp[results,results194,go_sem,g,i,j]) rfl ⟨rfl,by exact a1G f.out _ _⟩
  ·have m:a6M a b=⟨0,1⟩:=by unfold a6M;rw[f_ l,b3a h]
   rw[m];obtain⟨rfl,rfl⟩:=c49 p q l h;go_enter func194,ntmps194;go_wp2_with (first|(go_at_call 100;refine(a1a _ _).mono ?_;rintro e k ⟨rfl,c⟩;obtain⟨g,i,j,d⟩:=a0G c;have f:=h__ d;clear c d)|(go_at_call 191;refine(a29 _ _).mono ?_;rintro e k ⟨rfl,c⟩;obtain⟨g,i,j,d⟩:=a0G c;have f:=h__ d;clear c d));exact m_ (v:=vlV ⟨0,1⟩) (by simp[results,results194,go_sem,g,i,j]) rfl ⟨rfl,by exact a1G f.out _ _⟩
theorem c6h(a b:Int)(o: -9223372036854775808≤a∧a≤9223372036854775807)(p: -9223372036854775808≤b∧b≤9223372036854775807):a1U 195 #[i_ a,i_ b] (a7J a b):=by
 intro w;by_cases k:b=0
 ·subst k;have l:a7J a 0=⟨0,2⟩:=rfl;rw[l];go_enter func195,ntmps195;go_wp2_with (first|(go_at_call 100;refine(a1a _ _).mono ?_;rintro e j ⟨rfl,c⟩;obtain⟨g,h,i,d⟩:=a0G c;have f:=h__ d;clear c d)|(go_at_call 191;refine(a29 _ _).mono ?_;rintro e j ⟨rfl,c⟩;obtain⟨g,h,i,d⟩:=a0G c;have f:=h__ d;clear c d));exact m_ (v:=vlV ⟨0,2⟩) (by simp[results,results195,go_sem,g,h,i]) rfl ⟨rfl,by exact a1G f.out _ _⟩
 ·have l:a7J a b=⟨a.tmod b,0⟩:=by unfold a7J;rw[f_ k]
  rw[l];by_cases m:b= -1
  ·subst m;have n:a.tmod (-1)=0:=by simp
   rw[n];go_enter func195,ntmps195;go_wp2_with (first|(go_at_call 100;refine(a1a _ _).mono ?_;rintro e j ⟨rfl,c⟩;obtain⟨g,h,i,d⟩:=a0G c;have f:=h__ d;clear c d)|(go_at_call 191;refine(a29 _ _).mono ?_;rintro e j ⟨rfl,c⟩;obtain⟨g,h,i,d⟩:=a0G c;have f:=h__ d;clear c d));exact m_ (v:=vlV ⟨0,0⟩) (by simp[results,results195,go_sem,g,h,i]) rfl ⟨rfl,by exact a1G f.out _ _⟩
  ·have q:=b9X o k;go_enter func195,ntmps195;go_wp2_with (first|(go_at_call 100;refine(a1a _ _).mono ?_;rintro e j ⟨rfl,c⟩;obtain⟨g,h,i,d⟩:=a0G c;have f:=h__ d;clear c d)|(go_at_call 191;refine(a29 _ _).mono ?_;rintro e j ⟨rfl,c⟩;obtain⟨g,h,i,d⟩:=a0G c;have f:=h__ d;clear c d));exact m_ (v:=vlV ⟨a.tmod b,0⟩) (by simp[results,results195,go_sem,g,h,i]) rfl ⟨rfl,by exact a1G f.out _ _⟩
theorem c55(a b:Int)(ha: -9223372036854775808≤a∧a≤9223372036854775807)(hb: -9223372036854775808≤b∧b≤9223372036854775807):a1U 193 #[.int .i64 a,.int .i64 b] (a1X (a*b)):=by
 intro w
 generalize hv:a1X (a*b)=v
 unfold a1X at hv
 have HF:Hid (fits (a*b)=true↔ -9223372036854775808≤a*b∧a*b≤9223372036854775807):=a3o (a*b)
 cases hf:fits (a*b)
 ·rw[hf]at hv
  subst hv
  go_enter func193,ntmps193
  go_wp2_with (first|(go_at_call 202;refine(a9t a b ha hb _).mono ?_;rw[hf];rintro e w' ⟨rfl,rfl⟩)|(go_at_call 100;refine(a1a _ _).mono ?_;rintro e w1 ⟨rfl,hb1⟩;obtain⟨c0,c1,fz,hb2⟩:=a0G hb1;have HB2:Hid _:=hb2;clear hb1 hb2)|(go_at_call 191;refine(a29 _ _).mono ?_;rintro e w1 ⟨rfl,hb1⟩;obtain⟨c0,c1,fz,hb2⟩:=a0G hb1;have HB2:Hid _:=hb2;clear hb1 hb2))
  exact m_ (v:=vlV ⟨0,1⟩) (by simp[results,results193,go_sem,c0,c1,fz]) rfl ⟨rfl,by exact a1G HB2.out _ _⟩
 ·have hr:=HF.out.mp hf
  rw[hf]at hv
  subst hv
  go_enter func193,ntmps193
  go_wp2_with (first|(go_at_call 202;refine(a9t a b ha hb _).mono ?_;rw[hf];rintro e w' ⟨rfl,rfl⟩)|(go_at_call 100;refine(a1a _ _).mono ?_;rintro e w1 ⟨rfl,hb1⟩;obtain⟨c0,c1,fz,hb2⟩:=a0G hb1;have HB2:Hid _:=hb2;clear hb1 hb2)|(go_at_call 191;refine(a29 _ _).mono ?_;rintro e w1 ⟨rfl,hb1⟩;obtain⟨c0,c1,fz,hb2⟩:=a0G hb1;have HB2:Hid _:=hb2;clear hb1 hb2))
  exact m_ (v:=vlV ⟨a*b,0⟩) (by simp[results,results193,go_sem,c0,c1,fz]) rfl ⟨rfl,by exact a1G HB2.out _ _⟩
theorem b6n(g a b:Int)(q: -9223372036854775808≤a∧a≤9223372036854775807)(r: -9223372036854775808≤b∧b≤9223372036854775807):a1U 174 #[i_ g,i_ a,i_ b] (a6i g a b):=by
 intro w;have C:=c5u a b q r;have I:=b9U a b q r;have G:=c55 a b q r;have D:=c5D a b q r;have H:=c6h a b q r;have F:=b57 (decide (a<b));have E:=b57 (a==b);have i:a6i g a b=if g=4 then a1X (a+b)else if g=5 then a1X (a-b)else if g=6 then a1X (a*b)
 else if g=7 then a6M a b else if g=8 then a7J a b
 else if g=9 then⟨if decide (a<b)then 1 else 0,0⟩else if g=10 then⟨if(a==b)then 1 else 0,0⟩else⟨0,0⟩:=by
  unfold a6i;simp
 generalize V:a6i g a b=v at*;generalize a1X (a+b)=J at*;generalize a1X (a-b)=O at*;generalize a1X (a*b)=M at*;generalize a6M a b=L at*;generalize a7J a b=N at*;have P:=h__ C;have U:=h__ I;have S:=h__ G;have R:=h__ D;have T:=h__ H;have B:=h__ F;have A:=h__ E;clear C I G D H F E V;by_cases s:g=4
 ·subst s;have h:J=v:=by rw[i];simp
  clear i;subst h;go_enter func174,ntmps174;go_wp2_with (first|(go_at_call 192;refine(P.out _).mono ?_;rintro e p ⟨rfl,c⟩;obtain⟨j,k,l,d⟩:=a0G c;have f:=h__ d;clear c d));exact m_ (v:=vlV J) (by simp[results,results174,go_sem,j,k,l]) rfl ⟨rfl,by exact a1G f.out _ _⟩
 by_cases t:g=5
 ·subst t;have h:O=v:=by rw[i];simp
  clear i;subst h;go_enter func174,ntmps174;go_wp2_with (first|(go_at_call 173;refine(U.out _).mono ?_;rintro e p ⟨rfl,c⟩;obtain⟨j,k,l,d⟩:=a0G c;have f:=h__ d;clear c d));exact m_ (v:=vlV O) (by simp[results,results174,go_sem,j,k,l]) rfl ⟨rfl,by exact a1G f.out _ _⟩
 by_cases u:g=6
 ·subst u;have h:M=v:=by rw[i];simp
  clear i;subst h;go_enter func174,ntmps174;go_wp2_with (first|(go_at_call 193;refine(S.out _).mono ?_;rintro e p ⟨rfl,c⟩;obtain⟨j,k,l,d⟩:=a0G c;have f:=h__ d;clear c d));exact m_ (v:=vlV M) (by simp[results,results174,go_sem,j,k,l]) rfl ⟨rfl,by exact a1G f.out _ _⟩
 by_cases x:g=7
 ·subst x;have h:L=v:=by rw[i];simp
  clear i;subst h;go_enter func174,ntmps174;go_wp2_with (first|(go_at_call 194;refine(R.out _).mono ?_;rintro e p ⟨rfl,c⟩;obtain⟨j,k,l,d⟩:=a0G c;have f:=h__ d;clear c d));exact m_ (v:=vlV L) (by simp[results,results174,go_sem,j,k,l]) rfl ⟨rfl,by exact a1G f.out _ _⟩
 by_cases y:g=8
 ·subst y;have h:N=v:=by rw[i];simp
  clear i;subst h;go_enter func174,ntmps174;go_wp2_with (first|(go_at_call 195;refine(T.out _).mono ?_;rintro e p ⟨rfl,c⟩;obtain⟨j,k,l,d⟩:=a0G c;have f:=h__ d;clear c d));exact m_ (v:=vlV N) (by simp[results,results174,go_sem,j,k,l]) rfl ⟨rfl,by exact a1G f.out _ _⟩
 by_cases z:g=9
 ·subst z;have h:(⟨if decide (a<b)then 1 else 0,0⟩:Vl)=v:=by rw[i];simp
  clear i;have m:=B.out;rw[h]at m;have n:=h__ m;clear h m B;go_enter func174,ntmps174;go_wp2_with (first|(go_at_call 196;refine(n.out _).mono ?_;rintro e p ⟨rfl,c⟩;obtain⟨j,k,l,d⟩:=a0G c;have f:=h__ d;clear c d));exact m_ (v:=vlV v) (by simp[results,results174,go_sem,j,k,l]) rfl ⟨rfl,by exact a1G f.out _ _⟩
 by_cases o:g=10
 ·subst o;have h:(⟨if(a==b)then 1 else 0,0⟩:Vl)=v:=by rw[i];simp
  clear i;have m:=A.out;rw[h]at m;have n:=h__ m;clear h m A;go_enter func174,ntmps174;go_wp2_with (first|(go_at_call 196;refine(n.out _).mono ?_;rintro e p ⟨rfl,c⟩;obtain⟨j,k,l,d⟩:=a0G c;have f:=h__ d;clear c d));exact m_ (v:=vlV v) (by simp[results,results174,go_sem,j,k,l]) rfl ⟨rfl,by exact a1G f.out _ _⟩
 have h:(⟨0,0⟩:Vl)=v:=by rw[i];simp[s,t,u,x,y,z,o]
 subst h;clear i;have Y:(g==4)=false:=by simpa using s
 have Z:(g==5)=false:=by simpa using t
 have t6:(g==6)=false:=by simpa using u
 have t7:(g==7)=false:=by simpa using x
 have t8:(g==8)=false:=by simpa using y
 have t9:(g==9)=false:=by simpa using z
 have X:(g==10)=false:=by simpa using o
 go_enter func174,ntmps174;go_wp2_with (first|(go_at_call 100;refine(a1a _ _).mono ?_;rintro e p ⟨rfl,c⟩;obtain⟨j,k,l,d⟩:=a0G c;have f:=h__ d;clear c d));exact m_ (v:=vlV ⟨0,0⟩) (by simp[results,results174,go_sem,j,k,l]) rfl ⟨rfl,by exact a1G f.out _ _⟩
theorem c2v(a:Int)(x y:Vl)(l:a0S x)(m:a0S y):a1U 134 #[i_ a,vlV x,vlV y] (opV a x y):=by
 intro w;have k:=b6n a x.num y.num l.num m.num;have b:opV a x y=if x.fault≠0 then x else if y.fault≠0 then y else a6i a x.num y.num:=rfl
 generalize a6i a x.num y.num=n at*;generalize opV a x y=v at*;obtain⟨o,f⟩:=x;obtain⟨p,g⟩:=y;simp only at*;have i:=h__ k;clear k l m;by_cases x0:f=0
 ·subst x0;by_cases j:g=0
  ·subst j;have e:n=v:=by rw[b];simp
   subst e;clear b;go_enter func134,ntmps134;go_wp2_with (first|(go_at_call 174;refine(i.out _).mono ?_;rintro e z ⟨rfl,c⟩;obtain⟨q,r,s,d⟩:=c00 c;have h:=h__ d;clear c d));exact m_ (v:=vlV n) (by simp[results,results134,go_sem,q,r,s]) rfl ⟨rfl,(h.out.setCell (by simp only;omega) _).setCell (by simp only;omega) _⟩
  ·have e:(⟨p,g⟩:Vl)=v:=by rw[b];simp[j]
   subst e;clear b i;have u:(g==0)=false:=by simpa using j
   go_enter func134,ntmps134;go_wp2_with fail;exact m_ (v:=vlV ⟨p,g⟩) (by simp[results,results134,go_sem]) rfl ⟨rfl,by exact(((g_ _ _).alloc (a_ _) _).alloc (by simp) _).alloc (by simp;omega) _⟩
 ·have e:(⟨o,f⟩:Vl)=v:=by rw[b];simp[x0]
  subst e;clear b i;have t:(f==0)=false:=by simpa using x0
  go_enter func134,ntmps134;go_wp2_with fail;exact m_ (v:=vlV ⟨o,f⟩) (by simp[results,results134,go_sem]) rfl ⟨rfl,by exact(((g_ _ _).alloc (a_ _) _).alloc (by simp) _).alloc (by simp;omega) _⟩
theorem b9G(x:Vl)(i:a0S x):a1U 131 #[vlV x] (a4E x):=by
 intro w;have h:=b9U 0 x.num (by omega) i.num;have c:a4E x=if x.fault≠0 then x else a1X (0-x.num):=rfl
 generalize a1X (0-x.num)=j at*;generalize a4E x=v at*;obtain⟨k,d⟩:=x;simp only at*;have g:=h__ h;clear h i;by_cases x0:d=0
 ·subst x0;have e:j=v:=by rw[c];simp
  subst e;clear c;go_enter func131,ntmps131;go_wp2_with (first|(go_at_call 173;refine(g.out _).mono ?_;rintro e p ⟨rfl,a⟩;obtain⟨l,m,n,b⟩:=b30 a;have f:=h__ b;clear a b));exact m_ (v:=vlV j) (by simp[results,results131,go_sem,l,m,n]) rfl ⟨rfl,(f.out.setCell (by simp only;omega) _).setCell (by simp only;omega) _⟩
 ·have e:(⟨k,d⟩:Vl)=v:=by rw[c];simp[x0]
  subst e;clear c g;have o:(d==0)=false:=by simpa using x0
  go_enter func131,ntmps131;go_wp2_with fail;exact m_ (v:=vlV ⟨k,d⟩) (by simp[results,results131,go_sem]) rfl ⟨rfl,by exact((g_ _ _).alloc (a_ _) _).alloc (by simp) _⟩
end Go.Proofs.YtdgmoiflahoihaaGreatDoor
