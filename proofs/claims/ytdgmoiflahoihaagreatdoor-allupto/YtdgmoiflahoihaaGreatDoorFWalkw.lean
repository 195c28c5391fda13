import Derived.Test.YtdgmoiflahoihaaGreatDoorAbw
import Derived.Test.YtdgmoiflahoihaaGreatDoorPlainw
import Derived.Test.YtdgmoiflahoihaaGreatDoorRows
import Derived.WalkSpells
import Derived.WalkLawsBesides

set_option linter.unusedSimpArgs false
set_option linter.unusedVariables false
set_option maxRecDepth 100000
set_option maxHeartbeats 8000000
namespace Go.Proofs.YtdgmoiflahoihaaGreatDoor
open Go.Proofs.Tryz
open Go.RowKit
@[reducible] def bs(l:List UInt8):ByteArray:=⟨l.reverse.toArray⟩
@[reducible] def FV(st:Int)(g:ByteArray)(e:Bool)(c f a:Int)(b:Bool)(d:ByteArray):Value:= .agg #[.int .i64 st,.string g,.bool e,.int .i64 c,.int .i64 f,.int .i64 a,.bool b,.string d]
@[reducible] def FO(st:Int)(g:ByteArray)(e:Bool)(c f a:Int)(b:Bool)(d:ByteArray):Obj:= .cells #[.int .i64 st,.string g,.bool e,.int .i64 c,.int .i64 f,.int .i64 a,.bool b,.string d] 178
def fv(f:Fm):Value:=FV f.st (bs f.op) f.body f.digits f.last f.purpose f.related (bs f.block)
theorem b1Y(l:List UInt8)(a:UInt8):bs l++⟨#[a]⟩=bs (a::l):=by
 apply ByteArray.ext;simp[bs]
theorem c1s(l k:List UInt8):bs l++bs k=bs (k++l):=by
 apply ByteArray.ext;simp[bs]
theorem a9X(l:List UInt8)(a:UInt8):(bs (a::l)).extract 0 l.length=bs l:=by
 apply ByteArray.ext;rw[b_e];simp[bs]
theorem a1e{a b:UInt8}(h:a≠b):((a.toNat:Int)==(b.toNat:Int))=false:=by
 simp only[p_,ne_eq];intro k;exact h (a_p.mp (by omega))
theorem a0c(c:Int)(w:World):
  Calls prog 145 #[i_ c] w fun e w'=>e= .returned (.bool (a4c c))∧w'=w:=by
 go_enter func145,ntmps145
 go_wp2
 all_goals go_ret
 all_goals (refine⟨?_,rfl⟩;simp[a4c, *];try omega)
theorem a0d(c:Int)(w:World):
  Calls prog 115 #[i_ c] w fun e w'=>e= .returned (.bool (a2f c))∧w'=w:=by
 go_enter func115,ntmps115
 go_wp2
 all_goals go_ret
 all_goals (refine⟨?_,rfl⟩;simp[a2f, *];try omega)
theorem a0e(c:Int)(w:World):
  Calls prog 149 #[i_ c] w fun e w'=>e= .returned (.bool (a8j c))∧w'=w:=by
 go_enter func149,ntmps149
 go_wp2
 all_goals go_ret
 all_goals (refine⟨?_,rfl⟩;simp[a8j, *];try omega)
theorem c6t(st:Int)(f:Bool)(c g a:Int)(b:Bool)(d:ByteArray)(w:World):
  Calls prog 179 #[FV st (bs []) f c g a b d] w fun e w'=>e= .returned (.int .u8 0)∧w'=w.alloc (FO st (bs []) f c g a b d):=by
 go_enter func179,ntmps179
 go_wp2
 go_ret;exact⟨rfl,rfl⟩
theorem c5w(a:UInt8)(l:List UInt8)(h:l.length<(bs (a::l)).size):(bs (a::l))[l.length]=a:=by
 show((a::l).reverse.toArray)[l.length]'_=a;simp
theorem c5c(st:Int)(a:UInt8)(l:List UInt8)(g:Bool)(d i b:Int)(c:Bool)(f:ByteArray)(w:World)(h:l.length≤1000):
  Calls prog 179 #[FV st (bs (a::l)) g d i b c f] w fun e w'=>e= .returned (.int .u8 a.toNat)∧w'=w.alloc (FO st (bs (a::l)) g d i b c f):=by
 have j:((l.length:Int)+1==0)=false:=by simp;omega
 go_enter func179,ntmps179
 go_wp2
 go_ret;refine⟨?_,?_⟩
 ·simp[c5w]
 ·simp[bs]
theorem a0k(st:Int)(l:List UInt8)(g:Bool)(d i b:Int)(c:Bool)(f:ByteArray)(w:World)(h:l.length≤1000):
  Calls prog 179 #[FV st (bs l) g d i b c f] w fun e w'=>e= .returned (.int .u8 (l.headD 0).toNat)∧w'=w.alloc (FO st (bs l) g d i b c f):=by
 cases l with
 |nil=>exact c6t _ _ _ _ _ _ _ _
 |cons a l=>exact c5c _ _ _ _ _ _ _ _ _ _ (by simp at h;omega)
theorem a0f(st:Int)(i:List UInt8)(f:Bool)(c g a:Int)(b:Bool)(d:ByteArray)(w:World):
  Calls prog 139 #[FV st (bs i) f c g a b d] w fun e w'=>e= .returned (.bool (decide (i.length<8)))∧w'=w.alloc (FO st (bs i) f c g a b d):=by
 go_enter func139,ntmps139
 go_wp2
 go_ret;refine⟨?_,rfl⟩;simp;exact⟨fun h=>by omega,fun h=>by omega⟩
theorem a0p(st:Int)(h:ByteArray)(f:Bool)(c g a:Int)(b:Bool)(d:ByteArray)(n:Int)(w:World):
  Calls prog 141 #[FV st h f c g a b d,i_ n] w fun e w'=>e= .returned (.tuple #[FV n h f c g a b d,T__])∧w'=(w.alloc (FO n h f c g a b d)).alloc (FO n h f c g a b d):=by
 go_enter func141,ntmps141
 go_wp2
 exact m_ (v:= .tuple #[FV n h f c g a b d,T__]) (by simp[results,results141,go_sem]) rfl ⟨rfl,rfl⟩
theorem a5J{W w1:World}(a:B__ W w1):(∀b o,b<W.heap.size→w1.cell? (a__ b o)=W.cell? (a__ b o))∧(∀b o,b<W.heap.size→w1.frozen? (a__ b o)=W.frozen? (a__ b o)):=
 ⟨fun b o h=>a.cell (p:=(a__ b o)) h,fun b o h=>a.frozen (p:=(a__ b o)) h⟩
theorem b8x(f:Fm)(c:Int)(w:World):
  Calls prog 144 #[fv f,i_ c] w fun e w'=>e= .returned (.tuple #[fv (f.unit c).1,.bool (f.unit c).2])∧B__ w w':=by
 obtain⟨k,j,h,d,i,a,b,g⟩:=f;cases l:a4c c;case true=>
  rw[show Fm.unit ⟨k,j,h,d,i,a,b,g⟩ c=(⟨11,j,h,1,i,a,b,g⟩,true)by simp[Fm.unit,Fm.to,l]];simp only[fv];go_enter func144,ntmps144;go_wp2_with (first|(go_at_call 141;refine(a0p _ _ _ _ _ _ _ _ _ _).mono ?_;rintro e w' ⟨rfl,rfl⟩)|(go_at_call 139;refine(a0f _ (j) _ _ _ _ _ _ _).mono ?_;rintro e w' ⟨rfl,rfl⟩)|(go_at_call 145;refine(a0c _ _).mono ?_;rintro e w' ⟨rfl,rfl⟩)|(go_at_call 115;refine(a0d _ _).mono ?_;rintro e w' ⟨rfl,rfl⟩)|(go_at_call 149;refine(a0e _ _).mono ?_;rintro e w' ⟨rfl,rfl⟩)|(go_at_call 179;refine(a0k _ (j) _ _ _ _ _ _ _ (by simp at*;omega)).mono ?_;rintro e w' ⟨rfl,rfl⟩));exact m_ (v:= .tuple #[FV 11 (bs j) h 1 i a b (bs g),T__]) (by simp[results,results144,go_sem]) rfl ⟨rfl,by repeat (first|refine v_ ?_ (by simp<;>omega) _|refine y_ ?_ (by simp<;>omega) _|exact g_ _ _)⟩
 case false=>
 cases m:a2f c;case true=>
  rw[show Fm.unit ⟨k,j,h,d,i,a,b,g⟩ c=(⟨12,j,h,d,i,a,b,g⟩,true)by simp[Fm.unit,Fm.to,l,m]];simp only[fv];go_enter func144,ntmps144;go_wp2_with (first|(go_at_call 141;refine(a0p _ _ _ _ _ _ _ _ _ _).mono ?_;rintro e w' ⟨rfl,rfl⟩)|(go_at_call 139;refine(a0f _ (j) _ _ _ _ _ _ _).mono ?_;rintro e w' ⟨rfl,rfl⟩)|(go_at_call 145;refine(a0c _ _).mono ?_;rintro e w' ⟨rfl,rfl⟩)|(go_at_call 115;refine(a0d _ _).mono ?_;rintro e w' ⟨rfl,rfl⟩)|(go_at_call 149;refine(a0e _ _).mono ?_;rintro e w' ⟨rfl,rfl⟩)|(go_at_call 179;refine(a0k _ (j) _ _ _ _ _ _ _ (by simp at*;omega)).mono ?_;rintro e w' ⟨rfl,rfl⟩));exact m_ (v:= .tuple #[FV 12 (bs j) h d i a b (bs g),T__]) (by simp[results,results144,go_sem]) rfl ⟨rfl,by repeat (first|refine v_ ?_ (by simp<;>omega) _|refine y_ ?_ (by simp<;>omega) _|exact g_ _ _)⟩
 case false=>
 by_cases o:c=45
 ·subst o;rw[show Fm.unit ⟨k,j,h,d,i,a,b,g⟩ 45=(⟨10,j,h,d,i,a,b,g⟩,true)by simp[Fm.unit,Fm.to,l,m]];simp only[fv];go_enter func144,ntmps144;go_wp2_with (first|(go_at_call 141;refine(a0p _ _ _ _ _ _ _ _ _ _).mono ?_;rintro e w' ⟨rfl,rfl⟩)|(go_at_call 139;refine(a0f _ (j) _ _ _ _ _ _ _).mono ?_;rintro e w' ⟨rfl,rfl⟩)|(go_at_call 145;refine(a0c _ _).mono ?_;rintro e w' ⟨rfl,rfl⟩)|(go_at_call 115;refine(a0d _ _).mono ?_;rintro e w' ⟨rfl,rfl⟩)|(go_at_call 149;refine(a0e _ _).mono ?_;rintro e w' ⟨rfl,rfl⟩)|(go_at_call 179;refine(a0k _ (j) _ _ _ _ _ _ _ (by simp at*;omega)).mono ?_;rintro e w' ⟨rfl,rfl⟩));exact m_ (v:= .tuple #[FV 10 (bs j) h d i a b (bs g),T__]) (by simp[results,results144,go_sem]) rfl ⟨rfl,by repeat (first|refine v_ ?_ (by simp<;>omega) _|refine y_ ?_ (by simp<;>omega) _|exact g_ _ _)⟩
 by_cases n:c=40
 ·subst n;by_cases p:j.length<8
  ·cases b;case false=>
    rw[show Fm.unit ⟨k,j,h,d,i,a,false,g⟩ 40=(⟨10,101::j,h,d,i,a,false,g⟩,true)by simp[Fm.unit,Fm.to,l,m,p]];simp only[fv];go_enter func144,ntmps144;go_wp2_with (first|(go_at_call 141;refine(a0p _ _ _ _ _ _ _ _ _ _).mono ?_;rintro e w' ⟨rfl,rfl⟩)|(go_at_call 139;refine(a0f _ (j) _ _ _ _ _ _ _).mono ?_;rintro e w' ⟨rfl,rfl⟩)|(go_at_call 145;refine(a0c _ _).mono ?_;rintro e w' ⟨rfl,rfl⟩)|(go_at_call 115;refine(a0d _ _).mono ?_;rintro e w' ⟨rfl,rfl⟩)|(go_at_call 149;refine(a0e _ _).mono ?_;rintro e w' ⟨rfl,rfl⟩)|(go_at_call 179;refine(a0k _ (j) _ _ _ _ _ _ _ (by simp at*;omega)).mono ?_;rintro e w' ⟨rfl,rfl⟩));exact m_ (v:= .tuple #[FV 10 (bs j++⟨#[101]⟩) h d i a false (bs g),T__]) (by simp[results,results144,go_sem]) rfl ⟨by rw[b1Y],by repeat (first|refine v_ ?_ (by simp<;>omega) _|refine y_ ?_ (by simp<;>omega) _|exact g_ _ _)⟩
   case true=>
    rw[show Fm.unit ⟨k,j,h,d,i,a,true,g⟩ 40=(⟨10,69::j,h,d,i,a,false,g⟩,true)by simp[Fm.unit,Fm.to,l,m,p]];simp only[fv];go_enter func144,ntmps144;go_wp2_with (first|(go_at_call 141;refine(a0p _ _ _ _ _ _ _ _ _ _).mono ?_;rintro e w' ⟨rfl,rfl⟩)|(go_at_call 139;refine(a0f _ (j) _ _ _ _ _ _ _).mono ?_;rintro e w' ⟨rfl,rfl⟩)|(go_at_call 145;refine(a0c _ _).mono ?_;rintro e w' ⟨rfl,rfl⟩)|(go_at_call 115;refine(a0d _ _).mono ?_;rintro e w' ⟨rfl,rfl⟩)|(go_at_call 149;refine(a0e _ _).mono ?_;rintro e w' ⟨rfl,rfl⟩)|(go_at_call 179;refine(a0k _ (j) _ _ _ _ _ _ _ (by simp at*;omega)).mono ?_;rintro e w' ⟨rfl,rfl⟩));exact m_ (v:= .tuple #[FV 10 (bs j++⟨#[69]⟩) h d i a false (bs g),T__]) (by simp[results,results144,go_sem]) rfl ⟨by rw[b1Y],by repeat (first|refine v_ ?_ (by simp<;>omega) _|refine y_ ?_ (by simp<;>omega) _|exact g_ _ _)⟩
  ·
   rw[show Fm.unit ⟨k,j,h,d,i,a,b,g⟩ 40=(⟨k,j,h,d,i,a,b,g⟩,false)by simp[Fm.unit,Fm.to,l,m,p]];simp only[fv];go_enter func144,ntmps144;go_wp2_with (first|(go_at_call 141;refine(a0p _ _ _ _ _ _ _ _ _ _).mono ?_;rintro e w' ⟨rfl,rfl⟩)|(go_at_call 139;refine(a0f _ (j) _ _ _ _ _ _ _).mono ?_;rintro e w' ⟨rfl,rfl⟩)|(go_at_call 145;refine(a0c _ _).mono ?_;rintro e w' ⟨rfl,rfl⟩)|(go_at_call 115;refine(a0d _ _).mono ?_;rintro e w' ⟨rfl,rfl⟩)|(go_at_call 149;refine(a0e _ _).mono ?_;rintro e w' ⟨rfl,rfl⟩)|(go_at_call 179;refine(a0k _ (j) _ _ _ _ _ _ _ (by simp at*;omega)).mono ?_;rintro e w' ⟨rfl,rfl⟩));exact m_ (v:= .tuple #[FV k (bs j) h d i a b (bs g),F__]) (by simp[results,results144,go_sem]) rfl ⟨rfl,by repeat (first|refine v_ ?_ (by simp<;>omega) _|refine y_ ?_ (by simp<;>omega) _|exact g_ _ _)⟩
 ·
  rw[show Fm.unit ⟨k,j,h,d,i,a,b,g⟩ c=(⟨k,j,h,d,i,a,b,g⟩,false)by simp[Fm.unit,Fm.to,l,m,o,n]];simp only[fv];have r:(c==45)=false:=by simp only[p_,ne_eq];omega
  have q:(c==40)=false:=by simp only[p_,ne_eq];omega
  go_enter func144,ntmps144;go_wp2_with (first|(go_at_call 141;refine(a0p _ _ _ _ _ _ _ _ _ _).mono ?_;rintro e w' ⟨rfl,rfl⟩)|(go_at_call 139;refine(a0f _ (j) _ _ _ _ _ _ _).mono ?_;rintro e w' ⟨rfl,rfl⟩)|(go_at_call 145;refine(a0c _ _).mono ?_;rintro e w' ⟨rfl,rfl⟩)|(go_at_call 115;refine(a0d _ _).mono ?_;rintro e w' ⟨rfl,rfl⟩)|(go_at_call 149;refine(a0e _ _).mono ?_;rintro e w' ⟨rfl,rfl⟩)|(go_at_call 179;refine(a0k _ (j) _ _ _ _ _ _ _ (by simp at*;omega)).mono ?_;rintro e w' ⟨rfl,rfl⟩));exact m_ (v:= .tuple #[FV k (bs j) h d i a b (bs g),F__]) (by simp[results,results144,go_sem]) rfl ⟨rfl,by repeat (first|refine v_ ?_ (by simp<;>omega) _|refine y_ ?_ (by simp<;>omega) _|exact g_ _ _)⟩
theorem a9H(f:Fm)(c:Int)(w:World):
  Calls prog 143 #[fv f,i_ c] w fun e w'=>e= .returned (.tuple #[fv (f.labeled c).1,.bool (f.labeled c).2])∧B__ w w':=by
 obtain⟨l,k,h,d,i,j,a,g⟩:=f;by_cases s:j=0
 ·subst s;by_cases m:c=59
  ·subst m;rw[show Fm.labeled ⟨l,k,h,d,i,0,a,g⟩ 59=(⟨0,k,h,d,i,0,a,g⟩,true)by simp[Fm.labeled,Fm.to]];simp only[fv];go_enter func143,ntmps143;go_wp2_with (first|(go_at_call 141;refine(a0p _ _ _ _ _ _ _ _ _ _).mono ?_;rintro e w' ⟨rfl,rfl⟩)|(go_at_call 139;refine(a0f _ (k) _ _ _ _ _ _ _).mono ?_;rintro e w' ⟨rfl,rfl⟩)|(go_at_call 145;refine(a0c _ _).mono ?_;rintro e w' ⟨rfl,rfl⟩)|(go_at_call 115;refine(a0d _ _).mono ?_;rintro e w' ⟨rfl,rfl⟩)|(go_at_call 149;refine(a0e _ _).mono ?_;rintro e w' ⟨rfl,rfl⟩)|(go_at_call 179;refine(a0k _ (k) _ _ _ _ _ _ _ (by simp at*;omega)).mono ?_;rintro e w' ⟨rfl,rfl⟩));exact m_ (v:= .tuple #[FV 0 (bs k) h d i 0 a (bs g),T__]) (by simp[results,results143,go_sem]) rfl ⟨rfl,by repeat (first|refine v_ ?_ (by simp<;>omega) _|refine y_ ?_ (by simp<;>omega) _|exact g_ _ _)⟩
  ·
   rw[show Fm.labeled ⟨l,k,h,d,i,0,a,g⟩ c=(⟨l,k,h,d,i,0,a,g⟩,false)by simp[Fm.labeled,Fm.to,m]];simp only[fv];have p:(c==59)=false:=by simp only[p_,ne_eq];omega
   go_enter func143,ntmps143;go_wp2_with (first|(go_at_call 141;refine(a0p _ _ _ _ _ _ _ _ _ _).mono ?_;rintro e w' ⟨rfl,rfl⟩)|(go_at_call 139;refine(a0f _ (k) _ _ _ _ _ _ _).mono ?_;rintro e w' ⟨rfl,rfl⟩)|(go_at_call 145;refine(a0c _ _).mono ?_;rintro e w' ⟨rfl,rfl⟩)|(go_at_call 115;refine(a0d _ _).mono ?_;rintro e w' ⟨rfl,rfl⟩)|(go_at_call 149;refine(a0e _ _).mono ?_;rintro e w' ⟨rfl,rfl⟩)|(go_at_call 179;refine(a0k _ (k) _ _ _ _ _ _ _ (by simp at*;omega)).mono ?_;rintro e w' ⟨rfl,rfl⟩));exact m_ (v:= .tuple #[FV l (bs k) h d i 0 a (bs g),F__]) (by simp[results,results143,go_sem]) rfl ⟨rfl,by repeat (first|refine v_ ?_ (by simp<;>omega) _|refine y_ ?_ (by simp<;>omega) _|exact g_ _ _)⟩
 by_cases t:j=1
 ·subst t;by_cases n:c=61
  ·subst n;rw[show Fm.labeled ⟨l,k,h,d,i,1,a,g⟩ 61=(⟨10,k,h,d,i,1,a,g⟩,true)by simp[Fm.labeled,Fm.to]];simp only[fv];go_enter func143,ntmps143;go_wp2_with (first|(go_at_call 141;refine(a0p _ _ _ _ _ _ _ _ _ _).mono ?_;rintro e w' ⟨rfl,rfl⟩)|(go_at_call 139;refine(a0f _ (k) _ _ _ _ _ _ _).mono ?_;rintro e w' ⟨rfl,rfl⟩)|(go_at_call 145;refine(a0c _ _).mono ?_;rintro e w' ⟨rfl,rfl⟩)|(go_at_call 115;refine(a0d _ _).mono ?_;rintro e w' ⟨rfl,rfl⟩)|(go_at_call 149;refine(a0e _ _).mono ?_;rintro e w' ⟨rfl,rfl⟩)|(go_at_call 179;refine(a0k _ (k) _ _ _ _ _ _ _ (by simp at*;omega)).mono ?_;rintro e w' ⟨rfl,rfl⟩));exact m_ (v:= .tuple #[FV 10 (bs k) h d i 1 a (bs g),T__]) (by simp[results,results143,go_sem]) rfl ⟨rfl,by repeat (first|refine v_ ?_ (by simp<;>omega) _|refine y_ ?_ (by simp<;>omega) _|exact g_ _ _)⟩
  ·
   rw[show Fm.labeled ⟨l,k,h,d,i,1,a,g⟩ c=(⟨l,k,h,d,i,1,a,g⟩,false)by simp[Fm.labeled,Fm.to,n]];simp only[fv];have q:(c==61)=false:=by simp only[p_,ne_eq];omega
   go_enter func143,ntmps143;go_wp2_with (first|(go_at_call 141;refine(a0p _ _ _ _ _ _ _ _ _ _).mono ?_;rintro e w' ⟨rfl,rfl⟩)|(go_at_call 139;refine(a0f _ (k) _ _ _ _ _ _ _).mono ?_;rintro e w' ⟨rfl,rfl⟩)|(go_at_call 145;refine(a0c _ _).mono ?_;rintro e w' ⟨rfl,rfl⟩)|(go_at_call 115;refine(a0d _ _).mono ?_;rintro e w' ⟨rfl,rfl⟩)|(go_at_call 149;refine(a0e _ _).mono ?_;rintro e w' ⟨rfl,rfl⟩)|(go_at_call 179;refine(a0k _ (k) _ _ _ _ _ _ _ (by simp at*;omega)).mono ?_;rintro e w' ⟨rfl,rfl⟩));exact m_ (v:= .tuple #[FV l (bs k) h d i 1 a (bs g),F__]) (by simp[results,results143,go_sem]) rfl ⟨rfl,by repeat (first|refine v_ ?_ (by simp<;>omega) _|refine y_ ?_ (by simp<;>omega) _|exact g_ _ _)⟩
 by_cases u:j=2
 ·subst u;rw[show Fm.labeled ⟨l,k,h,d,i,2,a,g⟩ c=Fm.unit ⟨l,k,h,d,i,2,a,g⟩ c by simp[Fm.labeled,Fm.to]];have x:=fun w=>b8x ⟨l,k,h,d,i,2,a,g⟩ c w
  generalize Fm.unit ⟨l,k,h,d,i,2,a,g⟩ c=r at*;obtain⟨⟨z,A,B,C,D,E,F,G⟩,b⟩:=r;have y:=h__ x;clear x;simp only[fv]at*;go_enter func143,ntmps143;go_wp2_with (first|(go_at_call 144;refine(y.out _).mono ?_;rintro e w' ⟨rfl,o⟩;obtain⟨L,M⟩:=a5J o;have N:w.heap.size+1<w'.heap.size:=by(have:=o.size;simp at this;omega))|(go_at_call 141;refine(a0p _ _ _ _ _ _ _ _ _ _).mono ?_;rintro e w' ⟨rfl,rfl⟩)|(go_at_call 139;refine(a0f _ (k) _ _ _ _ _ _ _).mono ?_;rintro e w' ⟨rfl,rfl⟩)|(go_at_call 145;refine(a0c _ _).mono ?_;rintro e w' ⟨rfl,rfl⟩)|(go_at_call 115;refine(a0d _ _).mono ?_;rintro e w' ⟨rfl,rfl⟩)|(go_at_call 149;refine(a0e _ _).mono ?_;rintro e w' ⟨rfl,rfl⟩)|(go_at_call 179;refine(a0k _ (k) _ _ _ _ _ _ _ (by simp at*;omega)).mono ?_;rintro e w' ⟨rfl,rfl⟩));exact m_ (v:= .tuple #[FV z (bs A) B C D E F (bs G),.bool b]) (by simp[results,results143,go_sem,L,M,N]) rfl ⟨rfl,by repeat (first|refine v_ ?_ (by simp<;>omega) _|refine Below.trans ?_ (o.mono (by simp<;>omega))|refine y_ ?_ (by simp<;>omega) _|exact g_ _ _)⟩
 ·
  rw[show Fm.labeled ⟨l,k,h,d,i,j,a,g⟩ c=(⟨l,k,h,d,i,j,a,g⟩,false)by simp[Fm.labeled,Fm.to,s,t,u]];simp only[fv];have H:(j==0)=false:=by simp only[p_,ne_eq];omega
  have I:(j==1)=false:=by simp only[p_,ne_eq];omega
  have J:(j==2)=false:=by simp only[p_,ne_eq];omega
  go_enter func143,ntmps143;go_wp2_with (first|(go_at_call 141;refine(a0p _ _ _ _ _ _ _ _ _ _).mono ?_;rintro e w' ⟨rfl,rfl⟩)|(go_at_call 139;refine(a0f _ (k) _ _ _ _ _ _ _).mono ?_;rintro e w' ⟨rfl,rfl⟩)|(go_at_call 145;refine(a0c _ _).mono ?_;rintro e w' ⟨rfl,rfl⟩)|(go_at_call 115;refine(a0d _ _).mono ?_;rintro e w' ⟨rfl,rfl⟩)|(go_at_call 149;refine(a0e _ _).mono ?_;rintro e w' ⟨rfl,rfl⟩)|(go_at_call 179;refine(a0k _ (k) _ _ _ _ _ _ _ (by simp at*;omega)).mono ?_;rintro e w' ⟨rfl,rfl⟩));exact m_ (v:= .tuple #[FV l (bs k) h d i j a (bs g),F__]) (by simp[results,results143,go_sem]) rfl ⟨rfl,by repeat (first|refine v_ ?_ (by simp<;>omega) _|refine y_ ?_ (by simp<;>omega) _|exact g_ _ _)⟩
theorem b2o(f:Fm)(c:Int)(w:World):
  Calls prog 142 #[fv f,i_ c] w fun e w'=>e= .returned (.tuple #[fv (f.letters c).1,.bool (f.letters c).2])∧B__ w w':=by
 obtain⟨l,k,i,g,j,a,d,h⟩:=f;by_cases u:l=7
 ·subst u;by_cases n:c=45
  ·subst n;rw[show Fm.letters ⟨7,k,i,g,j,a,d,h⟩ 45=(⟨9,k,i,g,j,a,d,h⟩,true)by simp[Fm.letters,Fm.to]];simp only[fv];go_enter func142,ntmps142;go_wp2_with (first|(go_at_call 141;refine(a0p _ _ _ _ _ _ _ _ _ _).mono ?_;rintro e w' ⟨rfl,rfl⟩)|(go_at_call 139;refine(a0f _ (k) _ _ _ _ _ _ _).mono ?_;rintro e w' ⟨rfl,rfl⟩)|(go_at_call 145;refine(a0c _ _).mono ?_;rintro e w' ⟨rfl,rfl⟩)|(go_at_call 115;refine(a0d _ _).mono ?_;rintro e w' ⟨rfl,rfl⟩)|(go_at_call 149;refine(a0e _ _).mono ?_;rintro e w' ⟨rfl,rfl⟩)|(go_at_call 179;refine(a0k _ (k) _ _ _ _ _ _ _ (by simp at*;omega)).mono ?_;rintro e w' ⟨rfl,rfl⟩));exact m_ (v:= .tuple #[FV 9 (bs k) i g j a d (bs h),T__]) (by simp[results,results142,go_sem]) rfl ⟨rfl,by repeat (first|refine v_ ?_ (by simp<;>omega) _|refine y_ ?_ (by simp<;>omega) _|exact g_ _ _)⟩
  cases m:a8j c;case false=>
   rw[show Fm.letters ⟨7,k,i,g,j,a,d,h⟩ c=(⟨7,k,i,g,j,a,d,h⟩,false)by simp[Fm.letters,Fm.to,n,m]];simp only[fv];have p:(c==45)=false:=by simp only[p_,ne_eq];omega
   go_enter func142,ntmps142;go_wp2_with (first|(go_at_call 141;refine(a0p _ _ _ _ _ _ _ _ _ _).mono ?_;rintro e w' ⟨rfl,rfl⟩)|(go_at_call 139;refine(a0f _ (k) _ _ _ _ _ _ _).mono ?_;rintro e w' ⟨rfl,rfl⟩)|(go_at_call 145;refine(a0c _ _).mono ?_;rintro e w' ⟨rfl,rfl⟩)|(go_at_call 115;refine(a0d _ _).mono ?_;rintro e w' ⟨rfl,rfl⟩)|(go_at_call 149;refine(a0e _ _).mono ?_;rintro e w' ⟨rfl,rfl⟩)|(go_at_call 179;refine(a0k _ (k) _ _ _ _ _ _ _ (by simp at*;omega)).mono ?_;rintro e w' ⟨rfl,rfl⟩));exact m_ (v:= .tuple #[FV 7 (bs k) i g j a d (bs h),F__]) (by simp[results,results142,go_sem]) rfl ⟨rfl,by repeat (first|refine v_ ?_ (by simp<;>omega) _|refine y_ ?_ (by simp<;>omega) _|exact g_ _ _)⟩
  case true=>
   rw[show Fm.letters ⟨7,k,i,g,j,a,d,h⟩ c=(⟨8,k,i,g,c,a,d,h⟩,true)by simp[Fm.letters,Fm.to,n,m]];simp only[fv];have p:(c==45)=false:=by simp only[p_,ne_eq];omega
   go_enter func142,ntmps142;go_wp2_with (first|(go_at_call 141;refine(a0p _ _ _ _ _ _ _ _ _ _).mono ?_;rintro e w' ⟨rfl,rfl⟩)|(go_at_call 139;refine(a0f _ (k) _ _ _ _ _ _ _).mono ?_;rintro e w' ⟨rfl,rfl⟩)|(go_at_call 145;refine(a0c _ _).mono ?_;rintro e w' ⟨rfl,rfl⟩)|(go_at_call 115;refine(a0d _ _).mono ?_;rintro e w' ⟨rfl,rfl⟩)|(go_at_call 149;refine(a0e _ _).mono ?_;rintro e w' ⟨rfl,rfl⟩)|(go_at_call 179;refine(a0k _ (k) _ _ _ _ _ _ _ (by simp at*;omega)).mono ?_;rintro e w' ⟨rfl,rfl⟩));exact m_ (v:= .tuple #[FV 8 (bs k) i g c a d (bs h),T__]) (by simp[results,results142,go_sem]) rfl ⟨rfl,by repeat (first|refine v_ ?_ (by simp<;>omega) _|refine y_ ?_ (by simp<;>omega) _|exact g_ _ _)⟩
 cases m:a8j c;case false=>
  by_cases s:l=8
  ·subst s;rw[show Fm.letters ⟨8,k,i,g,j,a,d,h⟩ c=Fm.labeled ⟨8,k,i,g,j,a,d,h⟩ c by simp[Fm.letters,Fm.to,m]];have t:=fun w=>a9H ⟨8,k,i,g,j,a,d,h⟩ c w
   generalize Fm.labeled ⟨8,k,i,g,j,a,d,h⟩ c=r at*;obtain⟨⟨y,z,A,B,C,D,E,F⟩,b⟩:=r;have x:=h__ t;clear t;simp only[fv]at*;go_enter func142,ntmps142;go_wp2_with (first|(go_at_call 143;refine(x.out _).mono ?_;rintro e w' ⟨rfl,o⟩;obtain⟨H,I⟩:=a5J o;have L:w.heap.size+1<w'.heap.size:=by(have:=o.size;simp at this;omega))|(go_at_call 141;refine(a0p _ _ _ _ _ _ _ _ _ _).mono ?_;rintro e w' ⟨rfl,rfl⟩)|(go_at_call 139;refine(a0f _ (k) _ _ _ _ _ _ _).mono ?_;rintro e w' ⟨rfl,rfl⟩)|(go_at_call 145;refine(a0c _ _).mono ?_;rintro e w' ⟨rfl,rfl⟩)|(go_at_call 115;refine(a0d _ _).mono ?_;rintro e w' ⟨rfl,rfl⟩)|(go_at_call 149;refine(a0e _ _).mono ?_;rintro e w' ⟨rfl,rfl⟩)|(go_at_call 179;refine(a0k _ (k) _ _ _ _ _ _ _ (by simp at*;omega)).mono ?_;rintro e w' ⟨rfl,rfl⟩));exact m_ (v:= .tuple #[FV y (bs z) A B C D E (bs F),.bool b]) (by simp[results,results142,go_sem,H,I,L]) rfl ⟨rfl,by repeat (first|refine v_ ?_ (by simp<;>omega) _|refine Below.trans ?_ (o.mono (by simp<;>omega))|refine y_ ?_ (by simp<;>omega) _|exact g_ _ _)⟩
  ·
   rw[show Fm.letters ⟨l,k,i,g,j,a,d,h⟩ c=(⟨l,k,i,g,j,a,d,h⟩,false)by simp[Fm.letters,Fm.to,u,m,s]];simp only[fv];have q:(l==7)=false:=by simp only[p_,ne_eq];omega
   have G:(l==8)=false:=by simp only[p_,ne_eq];omega
   go_enter func142,ntmps142;go_wp2_with (first|(go_at_call 141;refine(a0p _ _ _ _ _ _ _ _ _ _).mono ?_;rintro e w' ⟨rfl,rfl⟩)|(go_at_call 139;refine(a0f _ (k) _ _ _ _ _ _ _).mono ?_;rintro e w' ⟨rfl,rfl⟩)|(go_at_call 145;refine(a0c _ _).mono ?_;rintro e w' ⟨rfl,rfl⟩)|(go_at_call 115;refine(a0d _ _).mono ?_;rintro e w' ⟨rfl,rfl⟩)|(go_at_call 149;refine(a0e _ _).mono ?_;rintro e w' ⟨rfl,rfl⟩)|(go_at_call 179;refine(a0k _ (k) _ _ _ _ _ _ _ (by simp at*;omega)).mono ?_;rintro e w' ⟨rfl,rfl⟩));exact m_ (v:= .tuple #[FV l (bs k) i g j a d (bs h),F__]) (by simp[results,results142,go_sem]) rfl ⟨rfl,by repeat (first|refine v_ ?_ (by simp<;>omega) _|refine y_ ?_ (by simp<;>omega) _|exact g_ _ _)⟩
 case true=>
  by_cases J:j<c
  ·
   rw[show Fm.letters ⟨l,k,i,g,j,a,d,h⟩ c=(⟨8,k,i,g,c,a,d,h⟩,true)by simp[Fm.letters,Fm.to,u,m,J]];simp only[fv];have q:(l==7)=false:=by simp only[p_,ne_eq];omega
   go_enter func142,ntmps142;go_wp2_with (first|(go_at_call 141;refine(a0p _ _ _ _ _ _ _ _ _ _).mono ?_;rintro e w' ⟨rfl,rfl⟩)|(go_at_call 139;refine(a0f _ (k) _ _ _ _ _ _ _).mono ?_;rintro e w' ⟨rfl,rfl⟩)|(go_at_call 145;refine(a0c _ _).mono ?_;rintro e w' ⟨rfl,rfl⟩)|(go_at_call 115;refine(a0d _ _).mono ?_;rintro e w' ⟨rfl,rfl⟩)|(go_at_call 149;refine(a0e _ _).mono ?_;rintro e w' ⟨rfl,rfl⟩)|(go_at_call 179;refine(a0k _ (k) _ _ _ _ _ _ _ (by simp at*;omega)).mono ?_;rintro e w' ⟨rfl,rfl⟩));exact m_ (v:= .tuple #[FV 8 (bs k) i g c a d (bs h),T__]) (by simp[results,results142,go_sem]) rfl ⟨rfl,by repeat (first|refine v_ ?_ (by simp<;>omega) _|refine y_ ?_ (by simp<;>omega) _|exact g_ _ _)⟩
  by_cases s:l=8
  ·subst s;rw[show Fm.letters ⟨8,k,i,g,j,a,d,h⟩ c=Fm.labeled ⟨8,k,i,g,j,a,d,h⟩ c by simp[Fm.letters,Fm.to,m,J]];have t:=fun w=>a9H ⟨8,k,i,g,j,a,d,h⟩ c w
   generalize Fm.labeled ⟨8,k,i,g,j,a,d,h⟩ c=r at*;obtain⟨⟨y,z,A,B,C,D,E,F⟩,b⟩:=r;have x:=h__ t;clear t;simp only[fv]at*;go_enter func142,ntmps142;go_wp2_with (first|(go_at_call 143;refine(x.out _).mono ?_;rintro e w' ⟨rfl,o⟩;obtain⟨H,I⟩:=a5J o;have L:w.heap.size+1<w'.heap.size:=by(have:=o.size;simp at this;omega))|(go_at_call 141;refine(a0p _ _ _ _ _ _ _ _ _ _).mono ?_;rintro e w' ⟨rfl,rfl⟩)|(go_at_call 139;refine(a0f _ (k) _ _ _ _ _ _ _).mono ?_;rintro e w' ⟨rfl,rfl⟩)|(go_at_call 145;refine(a0c _ _).mono ?_;rintro e w' ⟨rfl,rfl⟩)|(go_at_call 115;refine(a0d _ _).mono ?_;rintro e w' ⟨rfl,rfl⟩)|(go_at_call 149;refine(a0e _ _).mono ?_;rintro e w' ⟨rfl,rfl⟩)|(go_at_call 179;refine(a0k _ (k) _ _ _ _ _ _ _ (by simp at*;omega)).mono ?_;rintro e w' ⟨rfl,rfl⟩));exact m_ (v:= .tuple #[FV y (bs z) A B C D E (bs F),.bool b]) (by simp[results,results142,go_sem,H,I,L]) rfl ⟨rfl,by repeat (first|refine v_ ?_ (by simp<;>omega) _|refine Below.trans ?_ (o.mono (by simp<;>omega))|refine y_ ?_ (by simp<;>omega) _|exact g_ _ _)⟩
  ·
   rw[show Fm.letters ⟨l,k,i,g,j,a,d,h⟩ c=(⟨l,k,i,g,j,a,d,h⟩,false)by simp[Fm.letters,Fm.to,u,m,s,J]];simp only[fv];have q:(l==7)=false:=by simp only[p_,ne_eq];omega
   have G:(l==8)=false:=by simp only[p_,ne_eq];omega
   go_enter func142,ntmps142;go_wp2_with (first|(go_at_call 141;refine(a0p _ _ _ _ _ _ _ _ _ _).mono ?_;rintro e w' ⟨rfl,rfl⟩)|(go_at_call 139;refine(a0f _ (k) _ _ _ _ _ _ _).mono ?_;rintro e w' ⟨rfl,rfl⟩)|(go_at_call 145;refine(a0c _ _).mono ?_;rintro e w' ⟨rfl,rfl⟩)|(go_at_call 115;refine(a0d _ _).mono ?_;rintro e w' ⟨rfl,rfl⟩)|(go_at_call 149;refine(a0e _ _).mono ?_;rintro e w' ⟨rfl,rfl⟩)|(go_at_call 179;refine(a0k _ (k) _ _ _ _ _ _ _ (by simp at*;omega)).mono ?_;rintro e w' ⟨rfl,rfl⟩));exact m_ (v:= .tuple #[FV l (bs k) i g j a d (bs h),F__]) (by simp[results,results142,go_sem]) rfl ⟨rfl,by repeat (first|refine v_ ?_ (by simp<;>omega) _|refine y_ ?_ (by simp<;>omega) _|exact g_ _ _)⟩
theorem c1V(f:Fm)(c:Int)(w:World)(x:f.block.length≤1)(h:f.op.length≤1000):
  Calls prog 147 #[fv f,i_ c] w fun e w'=>e= .returned (.tuple #[fv (f.fixed c).1,.bool (f.fixed c).2])∧B__ w w':=by
 obtain⟨l,k,i,d,j,b,a,g⟩:=f;simp only at h x;by_cases D:l=2
 ·subst D;by_cases s:c=61
  ·subst s;rw[show Fm.fixed ⟨2,k,i,d,j,b,a,g⟩ 61=(⟨10,k,i,d,j,b,a,g⟩,true)by simp[Fm.fixed,Fm.to]];simp only[fv];go_enter func147,ntmps147;go_wp2_with (first|(go_at_call 141;refine(a0p _ _ _ _ _ _ _ _ _ _).mono ?_;rintro e w' ⟨rfl,rfl⟩)|(go_at_call 139;refine(a0f _ (k) _ _ _ _ _ _ _).mono ?_;rintro e w' ⟨rfl,rfl⟩)|(go_at_call 145;refine(a0c _ _).mono ?_;rintro e w' ⟨rfl,rfl⟩)|(go_at_call 115;refine(a0d _ _).mono ?_;rintro e w' ⟨rfl,rfl⟩)|(go_at_call 149;refine(a0e _ _).mono ?_;rintro e w' ⟨rfl,rfl⟩)|(go_at_call 179;refine(a0k _ (k) _ _ _ _ _ _ _ (by simp at*;omega)).mono ?_;rintro e w' ⟨rfl,rfl⟩));exact m_ (v:= .tuple #[FV 10 (bs k) i d j b a (bs g),T__]) (by simp[results,results147,go_sem]) rfl ⟨rfl,by repeat (first|refine v_ ?_ (by simp<;>omega) _|refine y_ ?_ (by simp<;>omega) _|exact g_ _ _)⟩
  ·
   rw[show Fm.fixed ⟨2,k,i,d,j,b,a,g⟩ c=(⟨2,k,i,d,j,b,a,g⟩,false)by simp[Fm.fixed,Fm.to,s]];simp only[fv];have A:(c==61)=false:=by simp only[p_,ne_eq];omega
   go_enter func147,ntmps147;go_wp2_with (first|(go_at_call 141;refine(a0p _ _ _ _ _ _ _ _ _ _).mono ?_;rintro e w' ⟨rfl,rfl⟩)|(go_at_call 139;refine(a0f _ (k) _ _ _ _ _ _ _).mono ?_;rintro e w' ⟨rfl,rfl⟩)|(go_at_call 145;refine(a0c _ _).mono ?_;rintro e w' ⟨rfl,rfl⟩)|(go_at_call 115;refine(a0d _ _).mono ?_;rintro e w' ⟨rfl,rfl⟩)|(go_at_call 149;refine(a0e _ _).mono ?_;rintro e w' ⟨rfl,rfl⟩)|(go_at_call 179;refine(a0k _ (k) _ _ _ _ _ _ _ (by simp at*;omega)).mono ?_;rintro e w' ⟨rfl,rfl⟩));exact m_ (v:= .tuple #[FV 2 (bs k) i d j b a (bs g),F__]) (by simp[results,results147,go_sem]) rfl ⟨rfl,by repeat (first|refine v_ ?_ (by simp<;>omega) _|refine y_ ?_ (by simp<;>omega) _|exact g_ _ _)⟩
 by_cases E:l=3
 ·subst E;cases t:a2f c;case false=>
   rw[show Fm.fixed ⟨3,k,i,d,j,b,a,g⟩ c=(⟨3,k,i,d,j,b,a,g⟩,false)by simp[Fm.fixed,Fm.to,t]];simp only[fv];go_enter func147,ntmps147;go_wp2_with (first|(go_at_call 141;refine(a0p _ _ _ _ _ _ _ _ _ _).mono ?_;rintro e w' ⟨rfl,rfl⟩)|(go_at_call 139;refine(a0f _ (k) _ _ _ _ _ _ _).mono ?_;rintro e w' ⟨rfl,rfl⟩)|(go_at_call 145;refine(a0c _ _).mono ?_;rintro e w' ⟨rfl,rfl⟩)|(go_at_call 115;refine(a0d _ _).mono ?_;rintro e w' ⟨rfl,rfl⟩)|(go_at_call 149;refine(a0e _ _).mono ?_;rintro e w' ⟨rfl,rfl⟩)|(go_at_call 179;refine(a0k _ (k) _ _ _ _ _ _ _ (by simp at*;omega)).mono ?_;rintro e w' ⟨rfl,rfl⟩));exact m_ (v:= .tuple #[FV 3 (bs k) i d j b a (bs g),F__]) (by simp[results,results147,go_sem]) rfl ⟨rfl,by repeat (first|refine v_ ?_ (by simp<;>omega) _|refine y_ ?_ (by simp<;>omega) _|exact g_ _ _)⟩
  case true=>
   rw[show Fm.fixed ⟨3,k,i,d,j,b,a,g⟩ c=(⟨4,k,i,d,j,b,a,g⟩,true)by simp[Fm.fixed,Fm.to,t]];simp only[fv];go_enter func147,ntmps147;go_wp2_with (first|(go_at_call 141;refine(a0p _ _ _ _ _ _ _ _ _ _).mono ?_;rintro e w' ⟨rfl,rfl⟩)|(go_at_call 139;refine(a0f _ (k) _ _ _ _ _ _ _).mono ?_;rintro e w' ⟨rfl,rfl⟩)|(go_at_call 145;refine(a0c _ _).mono ?_;rintro e w' ⟨rfl,rfl⟩)|(go_at_call 115;refine(a0d _ _).mono ?_;rintro e w' ⟨rfl,rfl⟩)|(go_at_call 149;refine(a0e _ _).mono ?_;rintro e w' ⟨rfl,rfl⟩)|(go_at_call 179;refine(a0k _ (k) _ _ _ _ _ _ _ (by simp at*;omega)).mono ?_;rintro e w' ⟨rfl,rfl⟩));exact m_ (v:= .tuple #[FV 4 (bs k) i d j b a (bs g),T__]) (by simp[results,results147,go_sem]) rfl ⟨rfl,by repeat (first|refine v_ ?_ (by simp<;>omega) _|refine y_ ?_ (by simp<;>omega) _|exact g_ _ _)⟩
 by_cases G:l=5
 ·subst G;cases t:a2f c;case false=>
   rw[show Fm.fixed ⟨5,k,i,d,j,b,a,g⟩ c=(⟨5,k,i,d,j,b,a,g⟩,false)by simp[Fm.fixed,Fm.to,t]];simp only[fv];go_enter func147,ntmps147;go_wp2_with (first|(go_at_call 141;refine(a0p _ _ _ _ _ _ _ _ _ _).mono ?_;rintro e w' ⟨rfl,rfl⟩)|(go_at_call 139;refine(a0f _ (k) _ _ _ _ _ _ _).mono ?_;rintro e w' ⟨rfl,rfl⟩)|(go_at_call 145;refine(a0c _ _).mono ?_;rintro e w' ⟨rfl,rfl⟩)|(go_at_call 115;refine(a0d _ _).mono ?_;rintro e w' ⟨rfl,rfl⟩)|(go_at_call 149;refine(a0e _ _).mono ?_;rintro e w' ⟨rfl,rfl⟩)|(go_at_call 179;refine(a0k _ (k) _ _ _ _ _ _ _ (by simp at*;omega)).mono ?_;rintro e w' ⟨rfl,rfl⟩));exact m_ (v:= .tuple #[FV 5 (bs k) i d j b a (bs g),F__]) (by simp[results,results147,go_sem]) rfl ⟨rfl,by repeat (first|refine v_ ?_ (by simp<;>omega) _|refine y_ ?_ (by simp<;>omega) _|exact g_ _ _)⟩
  case true=>
   rw[show Fm.fixed ⟨5,k,i,d,j,b,a,g⟩ c=(⟨6,k,i,d,j,b,a,g⟩,true)by simp[Fm.fixed,Fm.to,t]];simp only[fv];go_enter func147,ntmps147;go_wp2_with (first|(go_at_call 141;refine(a0p _ _ _ _ _ _ _ _ _ _).mono ?_;rintro e w' ⟨rfl,rfl⟩)|(go_at_call 139;refine(a0f _ (k) _ _ _ _ _ _ _).mono ?_;rintro e w' ⟨rfl,rfl⟩)|(go_at_call 145;refine(a0c _ _).mono ?_;rintro e w' ⟨rfl,rfl⟩)|(go_at_call 115;refine(a0d _ _).mono ?_;rintro e w' ⟨rfl,rfl⟩)|(go_at_call 149;refine(a0e _ _).mono ?_;rintro e w' ⟨rfl,rfl⟩)|(go_at_call 179;refine(a0k _ (k) _ _ _ _ _ _ _ (by simp at*;omega)).mono ?_;rintro e w' ⟨rfl,rfl⟩));exact m_ (v:= .tuple #[FV 6 (bs k) i d j b a (bs g),T__]) (by simp[results,results147,go_sem]) rfl ⟨rfl,by repeat (first|refine v_ ?_ (by simp<;>omega) _|refine y_ ?_ (by simp<;>omega) _|exact g_ _ _)⟩
 by_cases F:l=4
 ·subst F;by_cases m:c=58
  ·subst m;rw[show Fm.fixed ⟨4,k,i,d,j,b,a,g⟩ 58=(⟨7,k,i,d,j,1,a,g⟩,true)by simp[Fm.fixed,Fm.to]];simp only[fv];go_enter func147,ntmps147;go_wp2_with (first|(go_at_call 141;refine(a0p _ _ _ _ _ _ _ _ _ _).mono ?_;rintro e w' ⟨rfl,rfl⟩)|(go_at_call 139;refine(a0f _ (k) _ _ _ _ _ _ _).mono ?_;rintro e w' ⟨rfl,rfl⟩)|(go_at_call 145;refine(a0c _ _).mono ?_;rintro e w' ⟨rfl,rfl⟩)|(go_at_call 115;refine(a0d _ _).mono ?_;rintro e w' ⟨rfl,rfl⟩)|(go_at_call 149;refine(a0e _ _).mono ?_;rintro e w' ⟨rfl,rfl⟩)|(go_at_call 179;refine(a0k _ (k) _ _ _ _ _ _ _ (by simp at*;omega)).mono ?_;rintro e w' ⟨rfl,rfl⟩));exact m_ (v:= .tuple #[FV 7 (bs k) i d j 1 a (bs g),T__]) (by simp[results,results147,go_sem]) rfl ⟨rfl,by repeat (first|refine v_ ?_ (by simp<;>omega) _|refine y_ ?_ (by simp<;>omega) _|exact g_ _ _)⟩
  ·
   rw[show Fm.fixed ⟨4,k,i,d,j,b,a,g⟩ c=(⟨4,k,i,d,j,b,a,g⟩,false)by simp[Fm.fixed,Fm.to,m]];simp only[fv];have o:(c==58)=false:=by simp only[p_,ne_eq];omega
   go_enter func147,ntmps147;go_wp2_with (first|(go_at_call 141;refine(a0p _ _ _ _ _ _ _ _ _ _).mono ?_;rintro e w' ⟨rfl,rfl⟩)|(go_at_call 139;refine(a0f _ (k) _ _ _ _ _ _ _).mono ?_;rintro e w' ⟨rfl,rfl⟩)|(go_at_call 145;refine(a0c _ _).mono ?_;rintro e w' ⟨rfl,rfl⟩)|(go_at_call 115;refine(a0d _ _).mono ?_;rintro e w' ⟨rfl,rfl⟩)|(go_at_call 149;refine(a0e _ _).mono ?_;rintro e w' ⟨rfl,rfl⟩)|(go_at_call 179;refine(a0k _ (k) _ _ _ _ _ _ _ (by simp at*;omega)).mono ?_;rintro e w' ⟨rfl,rfl⟩));exact m_ (v:= .tuple #[FV 4 (bs k) i d j b a (bs g),F__]) (by simp[results,results147,go_sem]) rfl ⟨rfl,by repeat (first|refine v_ ?_ (by simp<;>omega) _|refine y_ ?_ (by simp<;>omega) _|exact g_ _ _)⟩
 by_cases H:l=6
 ·subst H;by_cases m:c=58
  ·subst m;rw[show Fm.fixed ⟨6,k,i,d,j,b,a,g⟩ 58=(⟨7,k,i,d,j,0,a,g⟩,true)by simp[Fm.fixed,Fm.to]];simp only[fv];go_enter func147,ntmps147;go_wp2_with (first|(go_at_call 141;refine(a0p _ _ _ _ _ _ _ _ _ _).mono ?_;rintro e w' ⟨rfl,rfl⟩)|(go_at_call 139;refine(a0f _ (k) _ _ _ _ _ _ _).mono ?_;rintro e w' ⟨rfl,rfl⟩)|(go_at_call 145;refine(a0c _ _).mono ?_;rintro e w' ⟨rfl,rfl⟩)|(go_at_call 115;refine(a0d _ _).mono ?_;rintro e w' ⟨rfl,rfl⟩)|(go_at_call 149;refine(a0e _ _).mono ?_;rintro e w' ⟨rfl,rfl⟩)|(go_at_call 179;refine(a0k _ (k) _ _ _ _ _ _ _ (by simp at*;omega)).mono ?_;rintro e w' ⟨rfl,rfl⟩));exact m_ (v:= .tuple #[FV 7 (bs k) i d j 0 a (bs g),T__]) (by simp[results,results147,go_sem]) rfl ⟨rfl,by repeat (first|refine v_ ?_ (by simp<;>omega) _|refine y_ ?_ (by simp<;>omega) _|exact g_ _ _)⟩
  ·
   rw[show Fm.fixed ⟨6,k,i,d,j,b,a,g⟩ c=(⟨6,k,i,d,j,b,a,g⟩,false)by simp[Fm.fixed,Fm.to,m]];simp only[fv];have o:(c==58)=false:=by simp only[p_,ne_eq];omega
   go_enter func147,ntmps147;go_wp2_with (first|(go_at_call 141;refine(a0p _ _ _ _ _ _ _ _ _ _).mono ?_;rintro e w' ⟨rfl,rfl⟩)|(go_at_call 139;refine(a0f _ (k) _ _ _ _ _ _ _).mono ?_;rintro e w' ⟨rfl,rfl⟩)|(go_at_call 145;refine(a0c _ _).mono ?_;rintro e w' ⟨rfl,rfl⟩)|(go_at_call 115;refine(a0d _ _).mono ?_;rintro e w' ⟨rfl,rfl⟩)|(go_at_call 149;refine(a0e _ _).mono ?_;rintro e w' ⟨rfl,rfl⟩)|(go_at_call 179;refine(a0k _ (k) _ _ _ _ _ _ _ (by simp at*;omega)).mono ?_;rintro e w' ⟨rfl,rfl⟩));exact m_ (v:= .tuple #[FV 6 (bs k) i d j b a (bs g),F__]) (by simp[results,results147,go_sem]) rfl ⟨rfl,by repeat (first|refine v_ ?_ (by simp<;>omega) _|refine y_ ?_ (by simp<;>omega) _|exact g_ _ _)⟩
 by_cases p:l=13
 ·subst p;cases y:a4c c;case false=>
   rw[show Fm.fixed ⟨13,k,i,d,j,b,a,g⟩ c=(⟨13,k,i,d,j,b,a,g⟩,false)by simp[Fm.fixed,Fm.to,y]];simp only[fv];go_enter func147,ntmps147;go_wp2_with (first|(go_at_call 141;refine(a0p _ _ _ _ _ _ _ _ _ _).mono ?_;rintro e w' ⟨rfl,rfl⟩)|(go_at_call 139;refine(a0f _ (k) _ _ _ _ _ _ _).mono ?_;rintro e w' ⟨rfl,rfl⟩)|(go_at_call 145;refine(a0c _ _).mono ?_;rintro e w' ⟨rfl,rfl⟩)|(go_at_call 115;refine(a0d _ _).mono ?_;rintro e w' ⟨rfl,rfl⟩)|(go_at_call 149;refine(a0e _ _).mono ?_;rintro e w' ⟨rfl,rfl⟩)|(go_at_call 179;refine(a0k _ (k) _ _ _ _ _ _ _ (by simp at*;omega)).mono ?_;rintro e w' ⟨rfl,rfl⟩));exact m_ (v:= .tuple #[FV 13 (bs k) i d j b a (bs g),F__]) (by simp[results,results147,go_sem]) rfl ⟨rfl,by repeat (first|refine v_ ?_ (by simp<;>omega) _|refine y_ ?_ (by simp<;>omega) _|exact g_ _ _)⟩
  case true=>
  by_cases r:c=48
  ·subst r;rw[show Fm.fixed ⟨13,k,i,d,j,b,a,g⟩ 48=(⟨13,k,i,d,j,b,a,g⟩,false)by simp[Fm.fixed,Fm.to,y]];simp only[fv];go_enter func147,ntmps147;go_wp2_with (first|(go_at_call 141;refine(a0p _ _ _ _ _ _ _ _ _ _).mono ?_;rintro e w' ⟨rfl,rfl⟩)|(go_at_call 139;refine(a0f _ (k) _ _ _ _ _ _ _).mono ?_;rintro e w' ⟨rfl,rfl⟩)|(go_at_call 145;refine(a0c _ _).mono ?_;rintro e w' ⟨rfl,rfl⟩)|(go_at_call 115;refine(a0d _ _).mono ?_;rintro e w' ⟨rfl,rfl⟩)|(go_at_call 149;refine(a0e _ _).mono ?_;rintro e w' ⟨rfl,rfl⟩)|(go_at_call 179;refine(a0k _ (k) _ _ _ _ _ _ _ (by simp at*;omega)).mono ?_;rintro e w' ⟨rfl,rfl⟩));exact m_ (v:= .tuple #[FV 13 (bs k) i d j b a (bs g),F__]) (by simp[results,results147,go_sem]) rfl ⟨rfl,by repeat (first|refine v_ ?_ (by simp<;>omega) _|refine y_ ?_ (by simp<;>omega) _|exact g_ _ _)⟩
  ·
   rw[show Fm.fixed ⟨13,k,i,d,j,b,a,g⟩ c=(⟨14,k,i,d,j,b,a,[108]⟩,true)by simp[Fm.fixed,Fm.to,y,r]];simp only[fv];have z:(c !=48)=true:=by simp only[bne_iff_ne,ne_eq];omega
   go_enter func147,ntmps147;go_wp2_with (first|(go_at_call 141;refine(a0p _ _ _ _ _ _ _ _ _ _).mono ?_;rintro e w' ⟨rfl,rfl⟩)|(go_at_call 139;refine(a0f _ (k) _ _ _ _ _ _ _).mono ?_;rintro e w' ⟨rfl,rfl⟩)|(go_at_call 145;refine(a0c _ _).mono ?_;rintro e w' ⟨rfl,rfl⟩)|(go_at_call 115;refine(a0d _ _).mono ?_;rintro e w' ⟨rfl,rfl⟩)|(go_at_call 149;refine(a0e _ _).mono ?_;rintro e w' ⟨rfl,rfl⟩)|(go_at_call 179;refine(a0k _ (k) _ _ _ _ _ _ _ (by simp at*;omega)).mono ?_;rintro e w' ⟨rfl,rfl⟩));exact m_ (v:= .tuple #[FV 14 (bs k) i d j b a (⟨#[108]⟩),T__]) (by simp[results,results147,go_sem]) rfl ⟨by rfl,by repeat (first|refine v_ ?_ (by simp<;>omega) _|refine y_ ?_ (by simp<;>omega) _|exact g_ _ _)⟩
 by_cases q:l=14
 ·subst q;by_cases n:c=123
  ·subst n;rw[show Fm.fixed ⟨14,k,i,d,j,b,a,g⟩ 123=(⟨0,g++k,i,d,j,b,a,g⟩,true)by simp[Fm.fixed,Fm.to]];simp only[fv];go_enter func147,ntmps147;go_wp2_with (first|(go_at_call 141;refine(a0p _ _ _ _ _ _ _ _ _ _).mono ?_;rintro e w' ⟨rfl,rfl⟩)|(go_at_call 139;refine(a0f _ (k) _ _ _ _ _ _ _).mono ?_;rintro e w' ⟨rfl,rfl⟩)|(go_at_call 145;refine(a0c _ _).mono ?_;rintro e w' ⟨rfl,rfl⟩)|(go_at_call 115;refine(a0d _ _).mono ?_;rintro e w' ⟨rfl,rfl⟩)|(go_at_call 149;refine(a0e _ _).mono ?_;rintro e w' ⟨rfl,rfl⟩)|(go_at_call 179;refine(a0k _ (k) _ _ _ _ _ _ _ (by simp at*;omega)).mono ?_;rintro e w' ⟨rfl,rfl⟩));exact m_ (v:= .tuple #[FV 0 (bs k++bs g) i d j b a (bs g),T__]) (by simp[results,results147,go_sem]) rfl ⟨by rw[c1s],by repeat (first|refine v_ ?_ (by simp<;>omega) _|refine y_ ?_ (by simp<;>omega) _|exact g_ _ _)⟩
  ·
   rw[show Fm.fixed ⟨14,k,i,d,j,b,a,g⟩ c=(⟨14,k,i,d,j,b,a,g⟩,false)by simp[Fm.fixed,Fm.to,n]];simp only[fv];have u:(c==123)=false:=by simp only[p_,ne_eq];omega
   go_enter func147,ntmps147;go_wp2_with (first|(go_at_call 141;refine(a0p _ _ _ _ _ _ _ _ _ _).mono ?_;rintro e w' ⟨rfl,rfl⟩)|(go_at_call 139;refine(a0f _ (k) _ _ _ _ _ _ _).mono ?_;rintro e w' ⟨rfl,rfl⟩)|(go_at_call 145;refine(a0c _ _).mono ?_;rintro e w' ⟨rfl,rfl⟩)|(go_at_call 115;refine(a0d _ _).mono ?_;rintro e w' ⟨rfl,rfl⟩)|(go_at_call 149;refine(a0e _ _).mono ?_;rintro e w' ⟨rfl,rfl⟩)|(go_at_call 179;refine(a0k _ (k) _ _ _ _ _ _ _ (by simp at*;omega)).mono ?_;rintro e w' ⟨rfl,rfl⟩));exact m_ (v:= .tuple #[FV 14 (bs k) i d j b a (bs g),F__]) (by simp[results,results147,go_sem]) rfl ⟨rfl,by repeat (first|refine v_ ?_ (by simp<;>omega) _|refine y_ ?_ (by simp<;>omega) _|exact g_ _ _)⟩
 ·
  rw[show Fm.fixed ⟨l,k,i,d,j,b,a,g⟩ c=(⟨l,k,i,d,j,b,a,g⟩,false)by simp[Fm.fixed,Fm.to,D,E,F,G,H,p,q]];simp only[fv];have I:(l==2)=false:=by simp only[p_,ne_eq];omega
  have J:(l==3)=false:=by simp only[p_,ne_eq];omega
  have L:(l==4)=false:=by simp only[p_,ne_eq];omega
  have M:(l==5)=false:=by simp only[p_,ne_eq];omega
  have N:(l==6)=false:=by simp only[p_,ne_eq];omega
  have B:(l==13)=false:=by simp only[p_,ne_eq];omega
  have C:(l==14)=false:=by simp only[p_,ne_eq];omega
  go_enter func147,ntmps147;go_wp2_with (first|(go_at_call 141;refine(a0p _ _ _ _ _ _ _ _ _ _).mono ?_;rintro e w' ⟨rfl,rfl⟩)|(go_at_call 139;refine(a0f _ (k) _ _ _ _ _ _ _).mono ?_;rintro e w' ⟨rfl,rfl⟩)|(go_at_call 145;refine(a0c _ _).mono ?_;rintro e w' ⟨rfl,rfl⟩)|(go_at_call 115;refine(a0d _ _).mono ?_;rintro e w' ⟨rfl,rfl⟩)|(go_at_call 149;refine(a0e _ _).mono ?_;rintro e w' ⟨rfl,rfl⟩)|(go_at_call 179;refine(a0k _ (k) _ _ _ _ _ _ _ (by simp at*;omega)).mono ?_;rintro e w' ⟨rfl,rfl⟩));exact m_ (v:= .tuple #[FV l (bs k) i d j b a (bs g),F__]) (by simp[results,results147,go_sem]) rfl ⟨rfl,by repeat (first|refine v_ ?_ (by simp<;>omega) _|refine y_ ?_ (by simp<;>omega) _|exact g_ _ _)⟩
end Go.Proofs.YtdgmoiflahoihaaGreatDoor
