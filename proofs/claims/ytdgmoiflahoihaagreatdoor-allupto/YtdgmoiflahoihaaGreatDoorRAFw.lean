import Derived.Test.YtdgmoiflahoihaaGreatDoorRAVw
import Derived.Test.YtdgmoiflahoihaaGreatDoorXDw

set_option linter.unusedSimpArgs false
set_option linter.unusedVariables false
set_option maxRecDepth 100000
set_option maxHeartbeats 8000000
namespace Go.Proofs.YtdgmoiflahoihaaGreatDoor
open Go.Proofs.Tryz
open Go.RowKit
theorem b8I{C:List UInt8}{B f i:Nat}{l:List Int}(h:a4j C B f i=some l)(hi:¬i<B):l= []:=by
 cases f with
 |zero=>cases h
 |succ f=>
  unfold a4j at h;rw[f_ hi]at h;cases h;rfl
theorem b61{C:List UInt8}{B f i:Nat}{l:List Int}(h:a4j C B f i=some l)(hi:i<B):∃(n:i<C.length) (p:i+1<C.length) (o j:Nat) (r:List Int),a0W C i=some o∧a4j C B j o=some r∧l=(if C[i]=63 then((C[i+1].toNat:Int)-97)::r else r):=by
 cases f with
 |zero=>cases h
 |succ f=>
  unfold a4j at h;rw[n_ hi]at h;cases a:C[i]? with
  |none=>rw[a]at h;simp at h
  |some c=>
   cases b:C[i+1]? with
   |none=>rw[a,b]at h;simp at h
   |some d=>
    cases g:a0W C i with
    |none=>rw[a,b,g]at h;simp at h
    |some o=>
     rw[a,b,g]at h;simp only at h;cases e:a4j C B f o with
     |none=>rw[e]at h;simp at h
     |some r=>
      rw[e]at h;simp only[U_]at h;obtain⟨k,rfl⟩:=k_.mp a;obtain⟨m,rfl⟩:=k_.mp b;exact⟨k,m,o,f,r,rfl,e,h.symm⟩
theorem c6a(w:World)(x:Int)(t:TypeId):∀j u,([i_ x]:List Value)[j]? =some u→(w.alloc (.cells #[i_ x] t)).cell? (((a__ w.heap.size 0):Addr).add j)=some u:=by
 intro j u h
 match j,h with
 |0,h=>simp at h;subst h;simp[go_sem,Addr.add]
 |j+1,h=>simp at h
theorem c11{w W d:World}{i:Obj}{c:Option Nat}(a:B__ w W)(b:(W.alloc i).grownBy d c)(g:∀k,c=some k→w.heap.size≤k):B__ w d:=by
 have j:=a.size;have h:W.heap.size+1≤d.heap.size:=by have:=b.size;simpa using this
 exact⟨b.os.trans a.os,b.tape.trans a.tape,b.output.trans a.output,by omega,fun k f=>((b.block k (by simp;omega) (fun e=>by have:=g k e.symm;omega)).trans (q_ _ _ _ (by omega))).trans (a.block k f)⟩
theorem b3q(b B F:Nat)(C:List UInt8)(A:List Int)(t:List Int)(w:World)(hb:a0A w b C A)(hB:a2U C=some B)(Aj:B≤C.length)(T:a4j C B F 0=some t):
  Calls prog 45 #[.pointer (some (a__ b 0))] w fun e w'=>(∃v,e= .returned v∧w'.ownsRow w.heap.size 3 1 v t.length (a2k t))∧B__ w w':=by
 have HB:=h__ hb;have u:=h__ hB;have HN:=h__ T;have hC:=hb.small;obtain⟨iV,Ae,Ag,Af,Ab⟩:=a1v b7h;clear hb hB T;go_enter func45,ntmps45;go_wp2_with fail;go_loopw [3,4] (fun x y w'=>∃(D:Option Addr) (G E i f:Nat) (M r:List Int),x= .slice D G E∧y=i_ i∧i≤C.length∧M.length≤i∧Hid (w'.ownsRow w.heap.size 3 1 (.slice D G E) M.length (a2k M))∧Hid (B__ w w')∧Hid (a4j C B f i=some r)∧Hid (M++r=t)) (fun _ y _=>500-(intOf y).toNat);case atStart=>exact⟨none,0,0,0,F,[],t,rfl,rfl,by omega,by simp,E_ ..,g_ _ _,HN,rfl⟩
 case round=>
  obtain⟨D,G,E,i,f,M,r,rfl,rfl,hi,hM,V,L,HF,HE⟩:=hrel;have g:Hid _:=HB.out.below L.out;have An:=L.out.size;by_cases S:i<B
  ·have tk:decide ((i:Int)<(B:Int))=true:=by simp;omega
   obtain⟨q0,q1,o,f',Y,n,R,s⟩:=b61 HF.out S;have Al:=a07 n;have Am:=a2z n;have I:=h__ n;have H:=h__ R;obtain⟨_,_,ac,aa,bc,ba,Ai,Ah,h0,h1,hc,ha⟩:=g.out;obtain⟨rfl,P⟩:=hc i q0;obtain⟨_,Ak⟩:=hc (i+1) q1;have hd:=C[i+1].toNat_lt;generalize Ac:C[i]=c at*;generalize C[i+1]=d at*;clear hc ha h1 R n Ac;by_cases m:c=63
   ·subst m;rw[n_ rfl]at s;have P:wr.cell? (a__ bc i)=some (.int .u8 63):=P;have z:Hid ((M++ [(d.toNat:Int)-97])++Y=t):=by show _=_;have:=HE.out;rw[s]at this;simpa using this
    have m1:M.length+1≤maxLen:=by unfold maxLen;omega
    have m2:(M.length+1)*8≤140737488355328:=by omega
    have m3:∀ob,w.heap.size≤(wr.alloc ob).heap.size:=fun ob=>by simp;omega
    have Aa:Hid (∀k,(Value.slice D G E).ownBlock=some k→w.heap.size≤k):=fun k hk=>(V.out.lt k hk).1
    have U:0<M.length+1:=by omega
    clear s;generalize d.toNat=O at*;have Ao:(0:Int)≤(i:Int)+1:=by omega
    have Ap:(i:Int)+1<(C.length:Int):=by omega
    go_wp2_with (first|(go_at_call 47;refine(a4g b B C A _ g.out u.out).mono ?_;rintro X Z ⟨rfl,a⟩;rw[a];clear a)|(at_builtin;refine a0X rfl (.tmp 20) (.tmp 31) 22 rfl w.heap.size 3 iV (i_ 0) 1 8 underlying22 Ae Ag Af Ab rfl (by decide) (.slice D G E) M.length (a2k M) (by rfl) (by exact V.out.alloc _) (a__ wr.heap.size 0) 1 1 [i_ ((O:Int)-97)] (by rfl) rfl (by exact c6a wr _ 3) (by intro q hq;simp at hq;subst hq;rfl) m1 m2 (m3 _) (by decide) ?_;intro v' w2 l h Ad;have j:=c11 L.out h Aa.out;clear Ad h;obtain⟨gn,N,rfl⟩:=Joins.ownsRow_form l U;have J:=h__ l;have p:=h__ j;clear l j)|(go_at_call 77;refine(a0Z b i o C A _ (HB.out.below p.out) I.out).mono ?_;rintro X Z ⟨rfl,a⟩;rw[a];clear a));go_roundw;case rel=>exact⟨some (a__ gn 0),_,N,o,f',M++ [(O:Int)-97],Y,rfl,rfl,by omega,by simp;omega,by show World.ownsRow _ _ _ _ _ _ _;rw[show a2k (M++ [(O:Int)-97])=a2k M++ [i_ ((O:Int)-97)]by simp[a2k],show(M++ [(O:Int)-97]).length=M.length+1 by simp];exact J.out,p,H,z⟩
    case measure=>simp[intOf];omega
   ·have Aq:((c.toNat:Int)==63)=false:=by exact(a5C (k:=63)).trans (by simpa using m)
    rw[f_ m]at s;have z:Hid (M++Y=t):=by have:=HE.out;rw[s]at this;exact this
    clear s m;go_wp2_with (first|(go_at_call 47;refine(a4g b B C A _ g.out u.out).mono ?_;rintro X Z ⟨rfl,a⟩;rw[a];clear a)|(go_at_call 77;refine(a0Z b i o C A _ g.out I.out).mono ?_;rintro X Z ⟨rfl,a⟩;rw[a];clear a));go_roundw;case rel=>exact⟨D,G,E,o,f',M,Y,rfl,rfl,by omega,by omega,V,L,H,z⟩
    case measure=>simp[intOf];omega
  ·have tk:decide ((i:Int)<(B:Int))=false:=by simp;omega
   have s:=b8I HF.out S;have hE:M=t:=by have:=HE.out;rw[s,a_i]at this;exact this
   go_wp2_with (first|(go_at_call 47;refine(a4g b B C A _ g.out u.out).mono ?_;rintro X Z ⟨rfl,a⟩;rw[a];clear a));go_ret;rw[←hE];exact⟨⟨_,rfl,V.out⟩,L.out⟩
end Go.Proofs.YtdgmoiflahoihaaGreatDoor
