import Derived.Test.YtdgmoiflahoihaaGreatDoorFRulew
import Derived.Test.YtdgmoiflahoihaaGreatDoorFAfterw
import Derived.RegionTactic
import Derived.ChangeAlike
import Derived.Deep.RegionWith
import Derived.Deep.Cut
import Derived.Deep.CutRange

set_option linter.unusedSimpArgs false
set_option linter.unusedVariables false
set_option maxRecDepth 100000
set_option maxHeartbeats 8000000
namespace Go.Proofs.YtdgmoiflahoihaaGreatDoor
open Go.Proofs.Tryz
open Go.RowKit
theorem c4z(f:Fm)(c:Int)(w:World)(h:f.op.length≤1000)(F:f.block.length≤1)(h0:0≤f.digits)(h9:f.digits≤1000):
  Calls prog 105 #[fv f,i_ c] w fun e w'=>e= .returned (.tuple #[fv (f.next c).1,.bool (f.next c).2])∧B__ w w':=by
 obtain⟨o,l,j,g,k,a,d,i⟩:=f;simp only at h F h0 h9;by_cases R:o=0
 ·subst R;rw[show Fm.next ⟨0,l,j,g,k,a,d,i⟩ c=Fm.rule ⟨0,l,j,g,k,a,d,i⟩ c by simp[Fm.next,Fm.to]];have n:=fun w=>b23 ⟨0,l,j,g,k,a,d,i⟩ c w (by simpa using h)
  generalize Fm.rule ⟨0,l,j,g,k,a,d,i⟩ c=r at*;obtain⟨⟨q,s,t,u,x,y,z,A⟩,b⟩:=r;have p:=h__ n;clear n;simp only[fv]at*;go_enter func105,ntmps105;go_wp2_with (first|(go_at_call 140;refine(p.out _).mono ?_;rintro e w' ⟨rfl,m⟩;obtain⟨B,C⟩:=a5J m;have D:w.heap.size+1<w'.heap.size:=by(have:=m.size;simp at this;omega))|(go_at_call 141;refine(a0p _ _ _ _ _ _ _ _ _ _).mono ?_;rintro e w' ⟨rfl,rfl⟩)|(go_at_call 139;refine(a0f _ (l) _ _ _ _ _ _ _).mono ?_;rintro e w' ⟨rfl,rfl⟩)|(go_at_call 145;refine(a0c _ _).mono ?_;rintro e w' ⟨rfl,rfl⟩)|(go_at_call 115;refine(a0d _ _).mono ?_;rintro e w' ⟨rfl,rfl⟩)|(go_at_call 149;refine(a0e _ _).mono ?_;rintro e w' ⟨rfl,rfl⟩)|(go_at_call 179;refine(a0k _ (l) _ _ _ _ _ _ _ h).mono ?_;rintro e w' ⟨rfl,rfl⟩));exact m_ (v:= .tuple #[FV q (bs s) t u x y z (bs A),.bool b]) (by simp[results,results105,go_sem,B,C,D]) rfl ⟨rfl,by repeat (first|refine v_ ?_ (by simp<;>omega) _|refine Below.trans ?_ (m.mono (by simp<;>omega))|refine y_ ?_ (by simp<;>omega) _|exact g_ _ _)⟩
 by_cases S:o=1
 ·subst S;by_cases E:c=123
  ·subst E;by_cases P:l.length<8
   ·
    rw[show Fm.next ⟨1,l,j,g,k,a,d,i⟩ 123=(⟨0,50::l,j,g,k,a,d,i⟩,true)by simp[Fm.next,Fm.to,P]];simp only[fv];go_enter func105,ntmps105;go_wp2_with (first|(go_at_call 141;refine(a0p _ _ _ _ _ _ _ _ _ _).mono ?_;rintro e w' ⟨rfl,rfl⟩)|(go_at_call 139;refine(a0f _ (l) _ _ _ _ _ _ _).mono ?_;rintro e w' ⟨rfl,rfl⟩)|(go_at_call 145;refine(a0c _ _).mono ?_;rintro e w' ⟨rfl,rfl⟩)|(go_at_call 115;refine(a0d _ _).mono ?_;rintro e w' ⟨rfl,rfl⟩)|(go_at_call 149;refine(a0e _ _).mono ?_;rintro e w' ⟨rfl,rfl⟩)|(go_at_call 179;refine(a0k _ (l) _ _ _ _ _ _ _ h).mono ?_;rintro e w' ⟨rfl,rfl⟩));exact m_ (v:= .tuple #[FV 0 (bs l++⟨#[50]⟩) j g k a d (bs i),T__]) (by simp[results,results105,go_sem]) rfl ⟨by rw[b1Y],by repeat (first|refine v_ ?_ (by simp<;>omega) _|refine y_ ?_ (by simp<;>omega) _|exact g_ _ _)⟩
   ·
    rw[show Fm.next ⟨1,l,j,g,k,a,d,i⟩ 123=Fm.rule ⟨1,l,j,g,k,a,d,i⟩ 123 by simp[Fm.next,Fm.to,P]];have n:=fun w=>b23 ⟨1,l,j,g,k,a,d,i⟩ 123 w (by simpa using h)
    generalize Fm.rule ⟨1,l,j,g,k,a,d,i⟩ 123=r at*;obtain⟨⟨q,s,t,u,x,y,z,A⟩,b⟩:=r;have p:=h__ n;clear n;simp only[fv]at*;go_enter func105,ntmps105;go_wp2_with (first|(go_at_call 140;refine(p.out _).mono ?_;rintro e w' ⟨rfl,m⟩;obtain⟨B,C⟩:=a5J m;have D:w.heap.size+1<w'.heap.size:=by(have:=m.size;simp at this;omega))|(go_at_call 141;refine(a0p _ _ _ _ _ _ _ _ _ _).mono ?_;rintro e w' ⟨rfl,rfl⟩)|(go_at_call 139;refine(a0f _ (l) _ _ _ _ _ _ _).mono ?_;rintro e w' ⟨rfl,rfl⟩)|(go_at_call 145;refine(a0c _ _).mono ?_;rintro e w' ⟨rfl,rfl⟩)|(go_at_call 115;refine(a0d _ _).mono ?_;rintro e w' ⟨rfl,rfl⟩)|(go_at_call 149;refine(a0e _ _).mono ?_;rintro e w' ⟨rfl,rfl⟩)|(go_at_call 179;refine(a0k _ (l) _ _ _ _ _ _ _ h).mono ?_;rintro e w' ⟨rfl,rfl⟩));exact m_ (v:= .tuple #[FV q (bs s) t u x y z (bs A),.bool b]) (by simp[results,results105,go_sem,B,C,D]) rfl ⟨rfl,by repeat (first|refine v_ ?_ (by simp<;>omega) _|refine Below.trans ?_ (m.mono (by simp<;>omega))|refine y_ ?_ (by simp<;>omega) _|exact g_ _ _)⟩
  ·
   rw[show Fm.next ⟨1,l,j,g,k,a,d,i⟩ c=Fm.rule ⟨1,l,j,g,k,a,d,i⟩ c by simp[Fm.next,Fm.to,E]];have n:=fun w=>b23 ⟨1,l,j,g,k,a,d,i⟩ c w (by simpa using h)
   generalize Fm.rule ⟨1,l,j,g,k,a,d,i⟩ c=r at*;obtain⟨⟨q,s,t,u,x,y,z,A⟩,b⟩:=r;have p:=h__ n;clear n;simp only[fv]at*;have J:(c==123)=false:=by simp only[p_,ne_eq];omega
   go_enter func105,ntmps105;go_wp2_with (first|(go_at_call 140;refine(p.out _).mono ?_;rintro e w' ⟨rfl,m⟩;obtain⟨B,C⟩:=a5J m;have D:w.heap.size+1<w'.heap.size:=by(have:=m.size;simp at this;omega))|(go_at_call 141;refine(a0p _ _ _ _ _ _ _ _ _ _).mono ?_;rintro e w' ⟨rfl,rfl⟩)|(go_at_call 139;refine(a0f _ (l) _ _ _ _ _ _ _).mono ?_;rintro e w' ⟨rfl,rfl⟩)|(go_at_call 145;refine(a0c _ _).mono ?_;rintro e w' ⟨rfl,rfl⟩)|(go_at_call 115;refine(a0d _ _).mono ?_;rintro e w' ⟨rfl,rfl⟩)|(go_at_call 149;refine(a0e _ _).mono ?_;rintro e w' ⟨rfl,rfl⟩)|(go_at_call 179;refine(a0k _ (l) _ _ _ _ _ _ _ h).mono ?_;rintro e w' ⟨rfl,rfl⟩));exact m_ (v:= .tuple #[FV q (bs s) t u x y z (bs A),.bool b]) (by simp[results,results105,go_sem,B,C,D]) rfl ⟨rfl,by repeat (first|refine v_ ?_ (by simp<;>omega) _|refine Below.trans ?_ (m.mono (by simp<;>omega))|refine y_ ?_ (by simp<;>omega) _|exact g_ _ _)⟩
 by_cases T:o=7
 ·subst T;rw[show Fm.next ⟨7,l,j,g,k,a,d,i⟩ c=Fm.letters ⟨7,l,j,g,k,a,d,i⟩ c by simp[Fm.next,Fm.to]];have n:=fun w=>b2o ⟨7,l,j,g,k,a,d,i⟩ c w
  generalize Fm.letters ⟨7,l,j,g,k,a,d,i⟩ c=r at*;obtain⟨⟨q,s,t,u,x,y,z,A⟩,b⟩:=r;have p:=h__ n;clear n;simp only[fv]at*;go_enter func105,ntmps105;go_wp2_with (first|(go_at_call 142;refine(p.out _).mono ?_;rintro e w' ⟨rfl,m⟩;obtain⟨B,C⟩:=a5J m;have D:w.heap.size+1<w'.heap.size:=by(have:=m.size;simp at this;omega))|(go_at_call 141;refine(a0p _ _ _ _ _ _ _ _ _ _).mono ?_;rintro e w' ⟨rfl,rfl⟩)|(go_at_call 139;refine(a0f _ (l) _ _ _ _ _ _ _).mono ?_;rintro e w' ⟨rfl,rfl⟩)|(go_at_call 145;refine(a0c _ _).mono ?_;rintro e w' ⟨rfl,rfl⟩)|(go_at_call 115;refine(a0d _ _).mono ?_;rintro e w' ⟨rfl,rfl⟩)|(go_at_call 149;refine(a0e _ _).mono ?_;rintro e w' ⟨rfl,rfl⟩)|(go_at_call 179;refine(a0k _ (l) _ _ _ _ _ _ _ h).mono ?_;rintro e w' ⟨rfl,rfl⟩));exact m_ (v:= .tuple #[FV q (bs s) t u x y z (bs A),.bool b]) (by simp[results,results105,go_sem,B,C,D]) rfl ⟨rfl,by repeat (first|refine v_ ?_ (by simp<;>omega) _|refine Below.trans ?_ (m.mono (by simp<;>omega))|refine y_ ?_ (by simp<;>omega) _|exact g_ _ _)⟩
 by_cases U:o=8
 ·subst U;rw[show Fm.next ⟨8,l,j,g,k,a,d,i⟩ c=Fm.letters ⟨8,l,j,g,k,a,d,i⟩ c by simp[Fm.next,Fm.to]];have n:=fun w=>b2o ⟨8,l,j,g,k,a,d,i⟩ c w
  generalize Fm.letters ⟨8,l,j,g,k,a,d,i⟩ c=r at*;obtain⟨⟨q,s,t,u,x,y,z,A⟩,b⟩:=r;have p:=h__ n;clear n;simp only[fv]at*;go_enter func105,ntmps105;go_wp2_with (first|(go_at_call 142;refine(p.out _).mono ?_;rintro e w' ⟨rfl,m⟩;obtain⟨B,C⟩:=a5J m;have D:w.heap.size+1<w'.heap.size:=by(have:=m.size;simp at this;omega))|(go_at_call 141;refine(a0p _ _ _ _ _ _ _ _ _ _).mono ?_;rintro e w' ⟨rfl,rfl⟩)|(go_at_call 139;refine(a0f _ (l) _ _ _ _ _ _ _).mono ?_;rintro e w' ⟨rfl,rfl⟩)|(go_at_call 145;refine(a0c _ _).mono ?_;rintro e w' ⟨rfl,rfl⟩)|(go_at_call 115;refine(a0d _ _).mono ?_;rintro e w' ⟨rfl,rfl⟩)|(go_at_call 149;refine(a0e _ _).mono ?_;rintro e w' ⟨rfl,rfl⟩)|(go_at_call 179;refine(a0k _ (l) _ _ _ _ _ _ _ h).mono ?_;rintro e w' ⟨rfl,rfl⟩));exact m_ (v:= .tuple #[FV q (bs s) t u x y z (bs A),.bool b]) (by simp[results,results105,go_sem,B,C,D]) rfl ⟨rfl,by repeat (first|refine v_ ?_ (by simp<;>omega) _|refine Below.trans ?_ (m.mono (by simp<;>omega))|refine y_ ?_ (by simp<;>omega) _|exact g_ _ _)⟩
 by_cases V:o=9
 ·subst V;rw[show Fm.next ⟨9,l,j,g,k,a,d,i⟩ c=Fm.labeled ⟨9,l,j,g,k,a,d,i⟩ c by simp[Fm.next,Fm.to]];have n:=fun w=>a9H ⟨9,l,j,g,k,a,d,i⟩ c w
  generalize Fm.labeled ⟨9,l,j,g,k,a,d,i⟩ c=r at*;obtain⟨⟨q,s,t,u,x,y,z,A⟩,b⟩:=r;have p:=h__ n;clear n;simp only[fv]at*;go_enter func105,ntmps105;go_wp2_with (first|(go_at_call 143;refine(p.out _).mono ?_;rintro e w' ⟨rfl,m⟩;obtain⟨B,C⟩:=a5J m;have D:w.heap.size+1<w'.heap.size:=by(have:=m.size;simp at this;omega))|(go_at_call 141;refine(a0p _ _ _ _ _ _ _ _ _ _).mono ?_;rintro e w' ⟨rfl,rfl⟩)|(go_at_call 139;refine(a0f _ (l) _ _ _ _ _ _ _).mono ?_;rintro e w' ⟨rfl,rfl⟩)|(go_at_call 145;refine(a0c _ _).mono ?_;rintro e w' ⟨rfl,rfl⟩)|(go_at_call 115;refine(a0d _ _).mono ?_;rintro e w' ⟨rfl,rfl⟩)|(go_at_call 149;refine(a0e _ _).mono ?_;rintro e w' ⟨rfl,rfl⟩)|(go_at_call 179;refine(a0k _ (l) _ _ _ _ _ _ _ h).mono ?_;rintro e w' ⟨rfl,rfl⟩));exact m_ (v:= .tuple #[FV q (bs s) t u x y z (bs A),.bool b]) (by simp[results,results105,go_sem,B,C,D]) rfl ⟨rfl,by repeat (first|refine v_ ?_ (by simp<;>omega) _|refine Below.trans ?_ (m.mono (by simp<;>omega))|refine y_ ?_ (by simp<;>omega) _|exact g_ _ _)⟩
 by_cases G:o=10
 ·subst G;rw[show Fm.next ⟨10,l,j,g,k,a,d,i⟩ c=Fm.unit ⟨10,l,j,g,k,a,d,i⟩ c by simp[Fm.next,Fm.to]];have n:=fun w=>b8x ⟨10,l,j,g,k,a,d,i⟩ c w
  generalize Fm.unit ⟨10,l,j,g,k,a,d,i⟩ c=r at*;obtain⟨⟨q,s,t,u,x,y,z,A⟩,b⟩:=r;have p:=h__ n;clear n;simp only[fv]at*;go_enter func105,ntmps105;go_wp2_with (first|(go_at_call 144;refine(p.out _).mono ?_;rintro e w' ⟨rfl,m⟩;obtain⟨B,C⟩:=a5J m;have D:w.heap.size+1<w'.heap.size:=by(have:=m.size;simp at this;omega))|(go_at_call 141;refine(a0p _ _ _ _ _ _ _ _ _ _).mono ?_;rintro e w' ⟨rfl,rfl⟩)|(go_at_call 139;refine(a0f _ (l) _ _ _ _ _ _ _).mono ?_;rintro e w' ⟨rfl,rfl⟩)|(go_at_call 145;refine(a0c _ _).mono ?_;rintro e w' ⟨rfl,rfl⟩)|(go_at_call 115;refine(a0d _ _).mono ?_;rintro e w' ⟨rfl,rfl⟩)|(go_at_call 149;refine(a0e _ _).mono ?_;rintro e w' ⟨rfl,rfl⟩)|(go_at_call 179;refine(a0k _ (l) _ _ _ _ _ _ _ h).mono ?_;rintro e w' ⟨rfl,rfl⟩));exact m_ (v:= .tuple #[FV q (bs s) t u x y z (bs A),.bool b]) (by simp[results,results105,go_sem,B,C,D]) rfl ⟨rfl,by repeat (first|refine v_ ?_ (by simp<;>omega) _|refine Below.trans ?_ (m.mono (by simp<;>omega))|refine y_ ?_ (by simp<;>omega) _|exact g_ _ _)⟩
 by_cases H:o=11
 ·subst H;cases O:a4c c;case false=>
   rw[show Fm.next ⟨11,l,j,g,k,a,d,i⟩ c=Fm.after ⟨11,l,j,g,k,a,d,i⟩ c by simp[Fm.next,Fm.to,O]];have n:=fun w=>b4R ⟨11,l,j,g,k,a,d,i⟩ c w (by simpa using h)
   generalize Fm.after ⟨11,l,j,g,k,a,d,i⟩ c=r at*;obtain⟨⟨q,s,t,u,x,y,z,A⟩,b⟩:=r;have p:=h__ n;clear n;simp only[fv]at*;go_enter func105,ntmps105;go_wp2_with (first|(go_at_call 146;refine(p.out _).mono ?_;rintro e w' ⟨rfl,m⟩;obtain⟨B,C⟩:=a5J m;have D:w.heap.size+1<w'.heap.size:=by(have:=m.size;simp at this;omega))|(go_at_call 141;refine(a0p _ _ _ _ _ _ _ _ _ _).mono ?_;rintro e w' ⟨rfl,rfl⟩)|(go_at_call 139;refine(a0f _ (l) _ _ _ _ _ _ _).mono ?_;rintro e w' ⟨rfl,rfl⟩)|(go_at_call 145;refine(a0c _ _).mono ?_;rintro e w' ⟨rfl,rfl⟩)|(go_at_call 115;refine(a0d _ _).mono ?_;rintro e w' ⟨rfl,rfl⟩)|(go_at_call 149;refine(a0e _ _).mono ?_;rintro e w' ⟨rfl,rfl⟩)|(go_at_call 179;refine(a0k _ (l) _ _ _ _ _ _ _ h).mono ?_;rintro e w' ⟨rfl,rfl⟩));exact m_ (v:= .tuple #[FV q (bs s) t u x y z (bs A),.bool b]) (by simp[results,results105,go_sem,B,C,D]) rfl ⟨rfl,by repeat (first|refine v_ ?_ (by simp<;>omega) _|refine Below.trans ?_ (m.mono (by simp<;>omega))|refine y_ ?_ (by simp<;>omega) _|exact g_ _ _)⟩
  case true=>
   rw[show Fm.next ⟨11,l,j,g,k,a,d,i⟩ c=(⟨11,l,j,g+1,k,a,d,i⟩,(decide (g+1≤18)))by simp[Fm.next,Fm.to,O]];simp only[fv];go_enter func105,ntmps105;go_wp2_with (first|(go_at_call 141;refine(a0p _ _ _ _ _ _ _ _ _ _).mono ?_;rintro e w' ⟨rfl,rfl⟩)|(go_at_call 139;refine(a0f _ (l) _ _ _ _ _ _ _).mono ?_;rintro e w' ⟨rfl,rfl⟩)|(go_at_call 145;refine(a0c _ _).mono ?_;rintro e w' ⟨rfl,rfl⟩)|(go_at_call 115;refine(a0d _ _).mono ?_;rintro e w' ⟨rfl,rfl⟩)|(go_at_call 149;refine(a0e _ _).mono ?_;rintro e w' ⟨rfl,rfl⟩)|(go_at_call 179;refine(a0k _ (l) _ _ _ _ _ _ _ h).mono ?_;rintro e w' ⟨rfl,rfl⟩));go_region;all_goals go_wp2
   all_goals exact m_ (v:= .tuple #[FV 11 (bs l) j (g+1) k a d (bs i),.bool (decide (g+1≤18))]) (by simp[results,results105,go_sem]) rfl ⟨rfl,by refine Below.drew ?_;repeat (first|refine v_ ?_ (by simp<;>omega) _|refine y_ ?_ (by simp<;>omega) _|exact g_ _ _)⟩
 by_cases I:o=12
 ·subst I;rw[show Fm.next ⟨12,l,j,g,k,a,d,i⟩ c=Fm.after ⟨12,l,j,g,k,a,d,i⟩ c by simp[Fm.next,Fm.to]];have n:=fun w=>b4R ⟨12,l,j,g,k,a,d,i⟩ c w (by simpa using h)
  generalize Fm.after ⟨12,l,j,g,k,a,d,i⟩ c=r at*;obtain⟨⟨q,s,t,u,x,y,z,A⟩,b⟩:=r;have p:=h__ n;clear n;simp only[fv]at*;go_enter func105,ntmps105;go_wp2_with (first|(go_at_call 146;refine(p.out _).mono ?_;rintro e w' ⟨rfl,m⟩;obtain⟨B,C⟩:=a5J m;have D:w.heap.size+1<w'.heap.size:=by(have:=m.size;simp at this;omega))|(go_at_call 141;refine(a0p _ _ _ _ _ _ _ _ _ _).mono ?_;rintro e w' ⟨rfl,rfl⟩)|(go_at_call 139;refine(a0f _ (l) _ _ _ _ _ _ _).mono ?_;rintro e w' ⟨rfl,rfl⟩)|(go_at_call 145;refine(a0c _ _).mono ?_;rintro e w' ⟨rfl,rfl⟩)|(go_at_call 115;refine(a0d _ _).mono ?_;rintro e w' ⟨rfl,rfl⟩)|(go_at_call 149;refine(a0e _ _).mono ?_;rintro e w' ⟨rfl,rfl⟩)|(go_at_call 179;refine(a0k _ (l) _ _ _ _ _ _ _ h).mono ?_;rintro e w' ⟨rfl,rfl⟩));exact m_ (v:= .tuple #[FV q (bs s) t u x y z (bs A),.bool b]) (by simp[results,results105,go_sem,B,C,D]) rfl ⟨rfl,by repeat (first|refine v_ ?_ (by simp<;>omega) _|refine Below.trans ?_ (m.mono (by simp<;>omega))|refine y_ ?_ (by simp<;>omega) _|exact g_ _ _)⟩
 ·
  rw[show Fm.next ⟨o,l,j,g,k,a,d,i⟩ c=Fm.fixed ⟨o,l,j,g,k,a,d,i⟩ c by simp[Fm.next,Fm.to,R,S,T,U,V,G,H,I]];have n:=fun w=>c1V ⟨o,l,j,g,k,a,d,i⟩ c w (by simpa using F) (by simpa using h)
  generalize Fm.fixed ⟨o,l,j,g,k,a,d,i⟩ c=r at*;obtain⟨⟨q,s,t,u,x,y,z,A⟩,b⟩:=r;have p:=h__ n;clear n;simp only[fv]at*;have X:(o==0)=false:=by simp only[p_,ne_eq];omega
  have Y:(o==1)=false:=by simp only[p_,ne_eq];omega
  have Z:(o==7)=false:=by simp only[p_,ne_eq];omega
  have Aa:(o==8)=false:=by simp only[p_,ne_eq];omega
  have Ab:(o==9)=false:=by simp only[p_,ne_eq];omega
  have L:(o==10)=false:=by simp only[p_,ne_eq];omega
  have M:(o==11)=false:=by simp only[p_,ne_eq];omega
  have N:(o==12)=false:=by simp only[p_,ne_eq];omega
  go_enter func105,ntmps105;go_wp2_with (first|(go_at_call 147;refine(p.out _).mono ?_;rintro e w' ⟨rfl,m⟩;obtain⟨B,C⟩:=a5J m;have D:w.heap.size+1<w'.heap.size:=by(have:=m.size;simp at this;omega))|(go_at_call 141;refine(a0p _ _ _ _ _ _ _ _ _ _).mono ?_;rintro e w' ⟨rfl,rfl⟩)|(go_at_call 139;refine(a0f _ (l) _ _ _ _ _ _ _).mono ?_;rintro e w' ⟨rfl,rfl⟩)|(go_at_call 145;refine(a0c _ _).mono ?_;rintro e w' ⟨rfl,rfl⟩)|(go_at_call 115;refine(a0d _ _).mono ?_;rintro e w' ⟨rfl,rfl⟩)|(go_at_call 149;refine(a0e _ _).mono ?_;rintro e w' ⟨rfl,rfl⟩)|(go_at_call 179;refine(a0k _ (l) _ _ _ _ _ _ _ h).mono ?_;rintro e w' ⟨rfl,rfl⟩));exact m_ (v:= .tuple #[FV q (bs s) t u x y z (bs A),.bool b]) (by simp[results,results105,go_sem,B,C,D]) rfl ⟨rfl,by repeat (first|refine v_ ?_ (by simp<;>omega) _|refine Below.trans ?_ (m.mono (by simp<;>omega))|refine y_ ?_ (by simp<;>omega) _|exact g_ _ _)⟩
theorem c3z(c:UInt8):IntKind.i64.wrap (c.toNat:Int)=(c.toNat:Int):=by
 have:=c.toNat_lt;exact b_j _ ⟨by omega,by omega⟩
structure a1T(w:World)(b:Nat)(f:Fm):Prop where
 c0:w.cell? ⟨b,0,none⟩=some (.int .i64 f.st)
 c1:w.cell? ⟨b,1,none⟩=some (.string (bs f.op))
 c2:w.cell? ⟨b,2,none⟩=some (.bool f.body)
 c3:w.cell? ⟨b,3,none⟩=some (.int .i64 f.digits)
 c4:w.cell? ⟨b,4,none⟩=some (.int .i64 f.last)
 c5:w.cell? ⟨b,5,none⟩=some (.int .i64 f.purpose)
 c6:w.cell? ⟨b,6,none⟩=some (.bool f.related)
 c7:w.cell? ⟨b,7,none⟩=some (.string (bs f.block))
 fz:∀o,w.frozen? ⟨b,o,none⟩=false
 lt:b<w.heap.size
def b10(f:Fm):Obj:=FO f.st (bs f.op) f.body f.digits f.last f.purpose f.related (bs f.block)
theorem a1T.below{W w1:World}{b:Nat}{f:Fm}{B:Nat}(h:a1T W b f)(c:Below B W w1)(d:b<B):a1T w1 b f:=by
 obtain⟨e,g,i,j,k,l,m,n,q,t⟩:=h;have a:=fun o=>c.cell (p:=(a__ b o)) d
 have r:=fun o=>c.frozen (p:=(a__ b o)) d
 have s:=c.size;exact⟨by rw[a,e],by rw[a,g],by rw[a,i],by rw[a,j],by rw[a,k],by rw[a,l],by rw[a,m],by rw[a,n],fun o=>by rw[r,q],by omega⟩
theorem a1T.new(W:World)(f:Fm):a1T (W.alloc (b10 f)) W.heap.size f:=by
 constructor;all_goals simp[go_sem,b10,FO]
theorem a1T.store{W:World}{b:Nat}{f:Fm}(g:Fm)(h:a1T W b f):
  a1T ((((((((W.setCell (a__ b 0) (i_ g.st)).setCell (a__ b 1) (.string (bs g.op))).setCell (a__ b 2) (.bool g.body)).setCell (a__ b 3) (i_ g.digits)).setCell (a__ b 4) (i_ g.last)).setCell (a__ b 5) (i_ g.purpose)).setCell (a__ b 6) (.bool g.related)).setCell (a__ b 7) (.string (bs g.block))) b g:=by
 obtain⟨j,l,m,o,p,r,s,t,u,y⟩:=h;constructor;all_goals simp[go_sem, *]
theorem b2c{W:World}{B b:Nat}(g:Fm)(h:B≤b):
  Below B W ((((((((W.setCell (a__ b 0) (i_ g.st)).setCell (a__ b 1) (.string (bs g.op))).setCell (a__ b 2) (.bool g.body)).setCell (a__ b 3) (i_ g.digits)).setCell (a__ b 4) (i_ g.last)).setCell (a__ b 5) (i_ g.purpose)).setCell (a__ b 6) (.bool g.related)).setCell (a__ b 7) (.string (bs g.block))):=
 ((((((((g_ B W).setCell h _).setCell h _).setCell h _).setCell h _).setCell h _).setCell h _).setCell h _).setCell h _
theorem c7J{W w1:World}{B:Nat}{f:Fm}(g:Fm)(b:B__ W w1)(c:a1T W B f):
  a1T (w1.alloc (b10 g)) w1.heap.size g∧a1T (w1.alloc (b10 g)) B f∧B__ W (w1.alloc (b10 g))∧B<w1.heap.size:=by
 have e:=b.size;have d:=c.lt;have a:B__ W (w1.alloc (b10 g)):=b.alloc e _;exact⟨a1T.new _ _,c.below a d,a,by omega⟩
theorem c7K{W w1:World}{B b0:Nat}{f z:Fm}(g:Fm)(c:B__ W w1)(e:a1T W B f)(d:a1T W b0 z)(b:B<b0):
  a1T ((((((((w1.setCell (a__ b0 0) (i_ g.st)).setCell (a__ b0 1) (.string (bs g.op))).setCell (a__ b0 2) (.bool g.body)).setCell (a__ b0 3) (i_ g.digits)).setCell (a__ b0 4) (i_ g.last)).setCell (a__ b0 5) (i_ g.purpose)).setCell (a__ b0 6) (.bool g.related)).setCell (a__ b0 7) (.string (bs g.block))) b0 g∧
  a1T ((((((((w1.setCell (a__ b0 0) (i_ g.st)).setCell (a__ b0 1) (.string (bs g.op))).setCell (a__ b0 2) (.bool g.body)).setCell (a__ b0 3) (i_ g.digits)).setCell (a__ b0 4) (i_ g.last)).setCell (a__ b0 5) (i_ g.purpose)).setCell (a__ b0 6) (.bool g.related)).setCell (a__ b0 7) (.string (bs g.block))) B f∧
  Below b0 W ((((((((w1.setCell (a__ b0 0) (i_ g.st)).setCell (a__ b0 1) (.string (bs g.op))).setCell (a__ b0 2) (.bool g.body)).setCell (a__ b0 3) (i_ g.digits)).setCell (a__ b0 4) (i_ g.last)).setCell (a__ b0 5) (i_ g.purpose)).setCell (a__ b0 6) (.bool g.related)).setCell (a__ b0 7) (.string (bs g.block)))∧B<b0:=by
 have h:=d.lt;have a:=b2c (W:=w1) g (a_ b0);exact⟨a1T.store g (d.below c h),(e.below c e.lt).below a b,(c.mono (by omega)).trans a,b⟩
theorem a1T.drew{W:World}{b:Nat}{f:Fm}(h:a1T W b f):a1T W.drew b f:=by
 obtain⟨a,c,d,e,g,i,j,k,l,m⟩:=h;exact⟨a,c,d,e,g,i,j,k,l,m⟩
theorem a0R{k:IntKind}{a b:Int}(h:a=b):Ending.returned (.int k a)= .returned (.int k b):=by rw[h]
theorem a9e(c:UInt8)(w:World):
  Calls prog 76 #[.int .u8 c.toNat] w fun e w'=>e= .returned (.bool (a12 c))∧w'=w:=by
 by_cases d:c=32
 ·subst d;go_enter func76,ntmps76
  go_wp2
  go_ret;exact⟨rfl,rfl⟩
 by_cases a:c=10
 ·subst a;go_enter func76,ntmps76
  go_wp2
  go_ret;exact⟨rfl,rfl⟩
 ·have h:((c.toNat:Int)==32)=false:=a1e (b:=32) d;have g:((c.toNat:Int)==10)=false:=a1e (b:=10) a;have f:a12 c=false:=by simp[a12,d,a]
  rw[f];go_enter func76,ntmps76
  go_wp2
  go_ret;exact⟨rfl,rfl⟩
theorem a9r(s:ByteArray)(w:World)(hs:s.size≤400):
  Calls prog 71 #[.string s] w fun e w'=>e= .returned (i_ (placeOf s.data.toList))∧B__ w w':=by
 go_enter func71,ntmps71
 go_wp2
 go_loopw [4] (fun i w'=>∃(k:Nat) (f:Fm),k≤s.size∧i=i_ k∧f.Small k∧a1T w' w.heap.size f∧B__ w w'∧Hid (a3F (s.data.toList.drop k) f k=placeOf s.data.toList)) (fun i w'=>s.size-(intOf i).toNat);case atStart=>
  exact⟨0,Fm.start,a_j _,rfl,⟨a_j _,by decide,by decide,by decide⟩,a1T.new w Fm.start,y_ (g_ _ _) (a_ _) _,rfl⟩
 case round=>
  obtain⟨k,f,hk,rfl,d,Aa,c,S⟩:=hrel;obtain⟨m,n,p,q,t,u,v,x,V,y⟩:=Aa;by_cases C:k<s.size
  ·cases A:a12 s[k];case true=>
    go_wp2_with (first|(go_at_call 76;refine(a9e _ _).mono ?_;rintro e w' ⟨rfl,rfl⟩));exact⟨⟨k+1,f,by omega,by go_num,b0T d (by omega),⟨m,n,p,q,t,u,v,x,V,y⟩,c,(b83 C A).trans S.out⟩,by simp[intOf];omega⟩
   case false=>
    have hu:=fun W=>c4z f (s[k].toNat:Int) W (by have:=d.op;omega) d.block d.d0 (by have:=d.d1;omega)
    have Ac:=c06 (s[k].toNat:Int) d;generalize hr:Fm.next f (s[k].toNat:Int)=r at*;obtain⟨g,ok⟩:=r;have HU:=h__ hu;have HR:=(show Hid (Fm.next f (s[k].toNat:Int)=(g,ok))from hr)
    clear hu hr;obtain⟨D,E,F,G,H,I,J,L⟩:=g;simp only[fv]at HU;go_upto_region 7 with(first|(go_at_call 76;refine(a9e _ _).mono ?_;rintro e w' ⟨rfl,rfl⟩))
    go_cut [6,7]from 9 to 32 (fun g o wx=>∃T,g= .pointer (some (a__ T 0))∧o= .bool ok∧a1T wx T ⟨D,E,F,G,H,I,J,L⟩∧a1T wx w.heap.size f∧B__ w wx∧w.heap.size<T)
    case first=>
     go_region_with (go_at_call 105;rw[c3z];refine(HU.out _).mono ?_;rintro e w1 ⟨rfl,X⟩;obtain⟨hc,hf⟩:=a5J X;have hz:=X.size;simp at hz);all_goals (go_wp2_with fail;go_meet)
     all_goals
      refine⟨_,rfl,rfl,?_⟩;first
      |(obtain⟨r1,r2,r3,r4⟩:=c7J ⟨D,E,F,G,H,I,J,L⟩ X (a1T.drew ⟨m,n,p,q,t,u,v,x,V,y⟩);exact⟨r1,r2,(c.drew).trans (r3.mono (a_K y)),r4⟩)
      |(obtain⟨r1,r2,r3,r4⟩:=c7K ⟨D,E,F,G,H,I,J,L⟩ X (f:=f) (B:=w.heap.size) (b0:=w'.heap.size) (z:=Fm.start) (by exact(a1T.below (W:=w') ⟨m,n,p,q,t,u,v,x,V,y⟩ (y_ (g_ w'.heap.size _) (a_ _) _) y).drew) (by exact(a1T.new w' Fm.start).drew) y;exact⟨r1,r2,(Below.drew (c.alloc (a_K y) _)).trans (r3.mono (a_K y)),r4⟩)
    case rest=>
     obtain⟨T,rfl,rfl,Ab,N,M,Ak⟩:=hcut;obtain⟨g0,g1,g2,g3,g4,g5,g6,g7,Ai,Aj⟩:=Ab;have O:=N;obtain⟨d0,d1,d2,d3,d4,d5,d6,d7,Ag,Ah⟩:=N;clear m n p q t u v x V y c;cases ok
     ·go_wp2_with fail;go_ret;exact⟨a0R ((c0U C A HR.out).trans S.out),M⟩
     ·go_wp2_with fail;exact⟨⟨k+1,⟨D,E,F,G,H,I,J,L⟩,by omega,by go_num,Ac,a1T.store ⟨D,E,F,G,H,I,J,L⟩ O,M.trans (b2c ⟨D,E,F,G,H,I,J,L⟩ (a_ _)),(c0T C A HR.out).trans S.out⟩,by simp[intOf];omega⟩
  ·have h:=(c2B (s:=s) (k:=k) (f:=f) (by omega)).symm.trans S.out;obtain⟨Y,op,Ae,U,Af,P,R,Z⟩:=f;have Ad:k=s.size:=by omega
   subst Ad;by_cases s0:Y=0
   ·subst s0;cases op with
    |nil=>
     have b: -1=placeOf s.data.toList:=by simpa[Fm.done]using h
     have j:=h__ b;clear h b;simp only at m n p q t u v x
     go_wp2
     go_ret;exact⟨a0R j.out,c⟩
    |cons a l=>
     have b:(s.size:Int)=placeOf s.data.toList:=by simpa[Fm.done]using h
     have j:=h__ b;clear h b;simp only at m n p q t u v x
     go_wp2
     go_ret;exact⟨a0R j.out,c⟩
   by_cases s1:Y=1
   ·subst s1;cases op with
    |nil=>
     have b: -1=placeOf s.data.toList:=by simpa[Fm.done]using h
     have j:=h__ b;clear h b;simp only at m n p q t u v x
     go_wp2
     go_ret;exact⟨a0R j.out,c⟩
    |cons a l=>
     have b:(s.size:Int)=placeOf s.data.toList:=by simpa[Fm.done]using h
     have j:=h__ b;clear h b;simp only at m n p q t u v x
     go_wp2
     go_ret;exact⟨a0R j.out,c⟩
   ·have n0:(Y !=0)=true:=by simp only[bne_iff_ne,ne_eq];omega
    have n1:(Y !=1)=true:=by simp only[bne_iff_ne,ne_eq];omega
    have b:(s.size:Int)=placeOf s.data.toList:=by simpa[Fm.done,s0,s1]using h
    have j:=h__ b;clear h b;simp only at m n p q t u v x
    go_wp2
    go_ret;exact⟨a0R j.out,c⟩
end Go.Proofs.YtdgmoiflahoihaaGreatDoor
