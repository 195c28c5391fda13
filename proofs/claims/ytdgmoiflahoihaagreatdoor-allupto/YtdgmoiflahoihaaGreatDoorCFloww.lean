import Derived.Test.YtdgmoiflahoihaaGreatDoorCReadw
import Derived.Deep.AppendSrc
import Derived.Laws.Tables
import Derived.Deep.WholeRow
import Derived.Deep.RegionHeld3

set_option linter.unusedSimpArgs false
set_option linter.unusedVariables false
set_option maxRecDepth 100000
set_option maxHeartbeats 8000000
namespace Go.Proofs.YtdgmoiflahoihaaGreatDoor
open Go.Proofs.Tryz
open Go.RowKit
theorem b1E{w w':World}{a b n:Nat}{e:TypeId}{v:Value}{xs:List Value}(h:w.ownsRow a e b v n xs)(m:B__ w w'):w'.ownsRow a e b v n xs:=by
 refine⟨h.1,?_⟩;rcases h.2 with i|⟨g,c,d,j,k,f,l⟩
 ·exact .inl i
 ·refine .inr ⟨g,c,d,j,k,?_,l⟩;rw[m.block g (z_.mp f).1,f]
theorem run_append_nil{P:Program}(w:World)(b:Nat)(t j e:TypeId)(i:TypeInfo)(a:Nat)(h:P.underlying t=some (.slice e))(hi:P.info? e=some i)(f:i.size=a)
  (v:Value) (n:Nat) (xs:List Value) (c:w.ownsRow b e a v n xs):(Builtin.append_ #[t,t] j #[v,.slice none 0 0]).run P w= .ok v w:=by
 rcases c.2 with⟨rfl,l⟩|⟨g,d,k,rfl,m,o,p,q⟩
 ·simp[Builtin.append_,run_underlying h,sizeOf,typeInfo,hi,Builtin.lenOf,run_firstCells_none]
 ·have:=run_append_room_src (P:=P) (w:=w) t t j e i h hi g 0 n d (.slice none 0 0) 0 [] (Src.ofNil w h 0) (by omega) (by simp) (by simp);simpa[World.setCells]using this
theorem a8s{P:Program}{w:World}{B:Array Oper}{rest:List Oper}{o:Oper}{a:Act}{Q:Exit→Act→World→Prop}(y:o.guard=none)(s x:Operand)(t:TypeId)
  (N:o.op= .call { callee:= .builtin .append,args:= #[s,x],argTypes:= #[t,t] })
  (c p:Nat) (e:TypeId) (i:TypeInfo) (z:Value) (b f:Nat) (R:P.underlying t=some (.slice e)) (M:P.info? e=some i) (X:i.zero=some z)
  (k:i.size=b) (I:i.bytes=f) (L:z.cells.size=b) (J:0<b)
  (v:Value) (n:Nat) (F:List Value) (O:a.eval s=v) (j:w.ownsRow c e b v n F)
  (u:Value) (m:Nat) (d:List Value) (S:a.eval x=u) (D:w.ownsRow p e b u m d) (T:∀q∈d,q.oneCell'=true)
  (H:n+m≤maxLen) (l:(n+m)*f≤140737488355328) (r:c≤w.heap.size)
  (h:∀E C,C.ownsRow c e b E (n+m) (F++d)→w.grownBy C v.ownBlock→wpList P B Q rest (a.put o.dst E) C):wpList P B Q (o::rest) a w:=by
 rcases Joins.ownsRow_forms D with⟨rfl,rfl⟩|⟨g,G,rfl⟩
 ·have V:d= []:=a_o (by simpa using D.1);subst V;have A:=run_append_nil (P:=P) w c t o.type e i b R M k v n F j;refine wpList_plain y fun _ U=> ?_
  unfold Oper.wp;simp[execOp,N,resolve,invoke,builtin,O,S,A,Result.andThen];exact U _ _ (h v w (by simpa using j) (World.grownBy.refl w _))
 ·refine b_i w y s x t N c e i z b f R M X k I L J v n F O j (a__ g 0) m G d S D.1 (D.cells rfl) T H l r fun E C Y Z _=>h E C Y Z
theorem c6e{W w:World}{a n m d i:Nat}{e f:TypeId}{v u:Value}{xs j:List Value}(h:w.ownsRow W.heap.size e d v n xs)(k:W.ownsRow a f i u m j):v.ownBlock=none∨v.ownBlock≠u.ownBlock:=by
 cases c:v.ownBlock with
 |none=>exact .inl rfl
 |some g=>
  refine .inr fun b=> ?_
  have l:=(h.lt g c).1;have o:=(k.lt g b.symm).2;omega
def flV(f:Fl):List Value:= [.int .i64 f.dst,.int .i64 f.frm,.int .i64 f.sec]
def a1o(l:List Fl):List Value:=l.flatMap flV
theorem a7T(l r:List Fl):a1o (l++r)=a1o l++a1o r:=by simp[a1o]
theorem b2k(l:List Fl):∀q∈a1o l,q.oneCell'=true:=by
 intro q a;simp[a1o,flV]at a;obtain⟨f,_,rfl|rfl|rfl⟩:=a<;>rfl
theorem c4h:(prog.info? 214).map (fun i=>(i.zero,i.size,i.bytes))=some (some (.agg #[i_ 0,i_ 0,i_ 0]),3,24):=by kernel_rfl
theorem b55(w:World)(a b c:Value)(t:TypeId):∀j u,[a,b,c][j]? =some u→(w.alloc (.cells #[a,b,c] t)).cell? (((a__ w.heap.size 0):Addr).add j)=some u:=by
 intro j u h
 match j,h with
 |0,h=>simp at h;subst h;simp[Addr.add]
 |1,h=>simp at h;subst h;simp[Addr.add]
 |2,h=>simp at h;subst h;simp[Addr.add]
theorem a8L{w:World}{a n m:Nat}{e:TypeId}{v:Value}{xs b:List Value}(h:w.ownsRow a e 3 v n xs)(c:n=m)(d:xs=b):w.ownsRow a e 3 v m b:=by
 subst c;subst d;exact h
theorem c1W(F:Nat):∀(b lo hi g:Nat) (r:List Fl) (C:List UInt8) (A:List Int) (w:World) (hb:a0A w b C A) (hg:g<2^26) (ho:a2j C F lo hi g=some r) (AQ:lo≤500) (A1:hi≤500),
  Calls prog 107 #[.pointer (some (a__ b 0)),i_ lo,i_ hi,i_ g] w fun x w'=>∃v,x= .returned v∧w'.ownsRow w.heap.size 214 3 v r.length (a1o r)∧B__ w w':=by
 induction F using Nat.strongRecOn with
 |ind F ih=>
 intro b lo hi g r C A w hb hg ho AQ A1;obtain⟨iF,Aj,An,Am,Ag⟩:=info_parts c4h;have IH:=h__ ih;have HB:=h__ hb;have A3:=b67 ho;have HO:=h__ ho;have hC:=hb.small;clear ih hb ho;go_enter func107,ntmps107
 go_wp2
 go_loopw [9,10] (fun v x w'=>∃(k f:Nat) (L z:List Fl),x=i_ k∧k≤500∧f≤F∧a0A w' b C A∧B__ w w'∧w'.ownsRow w.heap.size 214 3 v L.length (a1o L)∧Hid (a2j C f k hi g=some z)∧Hid (L++z=r)) (fun v x w'=>500-(intOf x).toNat);case atStart=>exact⟨lo,F,[],r,rfl,AQ,a_ _,HB.out,g_ _ _,E_ ..,HO,rfl⟩
 case round=>
  obtain⟨k,f,L,z,rfl,hk,hf,AL,Ah,O,HD,HR⟩:=hrel;by_cases A2:k<hi
  ·obtain⟨f',⟨c,d,m,l⟩,t,o,x,y,z',rfl,AT,AB,Ak,AN,AM,hx,hy,hz,AF⟩:=b3s HD.out A2;have A8:=a07 Ak;have A9:=a2z Ak;have HE:=h__ AT;have HT:=h__ AB;have HV:=h__ Ak;have HX:=h__ hx;have HY:=h__ hy;have HZ:=h__ hz;have Ad:=c4m (C:=C) (e:=⟨c,d,m,l⟩) hg;have AO:(L++z).length<100000:=by rw[HR.out];exact A3
   obtain⟨b1,b2,b3,b4⟩:=a72 AB hC;have A7:=b1z C m l;have AY:=h__ AF;simp only[AF,x_]at AO;clear AT AB Ak hx hy hz AF;simp only at AN AM;have S:=h__ AL;clear AL;generalize Au:a4K C ⟨c,d,m,l⟩ g=h at*;have Aq:=h__ Au;clear Au;go_upto_if 41 with(first|(go_at_call 79;refine(a82 b k ⟨c,d,m,l⟩ C A _ S.out HE.out).mono ?_;rintro x1 w' ⟨rfl,rfl⟩))
   go_cut [15,16]from 25 to 97 (fun a q wx=>a=i_ h∧Hid (a0A wx b C A)∧B__ w wx∧Hid (wx=w'))
   case first=>
    by_cases Av:d<0
    ·have A0:=a2u g (a1F C m l) (by omega) (by omega);have E:g|||a1F C m l=h:=by have:=Aq.out;simpa[a4K,Av]using this
     rw[E]at A0;clear E;go_wp2_with (first|(go_at_call 109;refine(b5H b m l C A _ S.out AN AM).mono ?_;rintro x1 w2 ⟨rfl,rfl⟩))
     go_meet
     exact⟨rfl,S,Ah,rfl⟩
    ·have E:g=h:=by have:=Aq.out;simpa[a4K,Av]using this
     have AW:=h__ E;clear E
     go_wp2
     go_meet
     exact⟨by rw[AW.out],S,Ah,rfl⟩
   case rest=>
   obtain⟨rfl,T,Z,AI⟩:=hcut;have B:=O;rw[←AI.out]at B;clear S Ah O AI;go_upto_if 50 with fail;have hL:L.length+(a4Q ⟨c,d,m,l⟩ h).length<100000:=by omega
   go_cut [9,17]from 25 to 97 (fun v q wx=>wx.ownsRow w.heap.size 214 3 v (L++a4Q ⟨c,d,m,l⟩ h).length (a1o (L++a4Q ⟨c,d,m,l⟩ h))∧Hid (a0A wx b C A)∧B__ w wx)
   case first=>
    by_cases AC:0≤c
    ·have AD:a4Q ⟨c,d,m,l⟩ h=a2v c h 26++(if 0<d then [⟨c,-1,d⟩]else []):=by simp[a4Q,AC]
     rw[AD]at hL;simp only[x_]at hL;have AH:=h__ AD;clear AD;have AU:decide (0≤c)=true:=by simp[AC]
     rw[AU];clear AU;go_wp2_with fail;go_loopw [9,17] (fun v q w'=>∃(G:Nat) (M:List Fl),q=i_ G∧G≤26∧w'.ownsRow w.heap.size 214 3 v M.length (a1o M)∧Hid (a0A w' b C A)∧B__ w w'∧M.length<100000∧Hid (M++a2v c h (26-G)=L++a2v c h 26)) (fun v q w'=>26-(intOf q).toNat);case atStart=>exact⟨0,L,rfl,by omega,B,T,Z,by omega,rfl⟩
     case round=>
      obtain⟨G,M,rfl,A6,n,AG,j,AJ,HM⟩:=hrel;by_cases AP:G<26
      ·have X:=b4o h G 26 Ad (by omega) (by omega);by_cases u:h&&&2^G=0
       ·have V:Hid _:=c2l (dst:=c) AP u;rw[u]at X;have AV:=h__ X;clear X u;have tb:(bits .and .i64 (h:Int) (wrap64 (2^G)) !=0)=false:=by rw[AV.out];rfl
        go_wp2
        exact⟨⟨G+1,M,by go_num,by omega,n,AG,j,AJ,by have:=HM.out;rw[V.out]at this;exact this⟩,by simp[intOf];omega⟩
       ·have V:Hid _:=c0M (dst:=c) AP u;have tb:(bits .and .i64 (h:Int) (wrap64 (2^G)) !=0)=true:=by rw[X];simpa using u
        have Az:(M++ [(⟨c,(G:Int),0⟩:Fl)])++a2v c h (26-(G+1))=L++a2v c h 26:=by have:=HM.out;rw[V.out]at this;simpa using this
        have AZ:(M++ [(⟨c,(G:Int),0⟩:Fl)]).length<100000:=by have:=a_w List.length Az;simp only[x_]at this⊢;omega
        have AX:=h__ Az;clear X u Az;go_wp2_with (at_builtin;refine b_i _ rfl (.tmp 60) (.tmp 64) 181 rfl w.heap.size 214 iF (.agg #[i_ 0,i_ 0,i_ 0]) 3 24 underlying181 Aj An Am Ag rfl (by decide) _ M.length (a1o M) (by rfl) (by exact n.alloc _) (a__ wr.heap.size 0) 1 1 [i_ c,i_ G,i_ 0] (by rfl) rfl (by exact b55 wr _ _ _ 214) (by intro q R;simp at R;rcases R with rfl|rfl|rfl<;>rfl) (by unfold maxLen;omega) (by omega) (by have:=j.size;simp;omega) ?nxt);case nxt=>
         intro v' w2 i H _;have Y:B__ w w2:=(j.alloc j.size _).grown H (by have:=j.size;simp;omega) (fun q R=>(n.lt q R).1);have Ay:Hid _:=HB.out.below Y
         go_wp2
         go_roundw;case rel=>exact⟨G+1,M++ [⟨c,(G:Int),0⟩],by go_num,by omega,a8L i (by simp) (by rw[a7T];rfl),Ay,Y,AZ,AX⟩
         case measure=>simp[intOf];omega
      ·have hM:M=L++a2v c h 26:=by have:=HM.out;rw[show 26-G=0 by omega]at this;simpa[a2v]using this
       by_cases AR:0<d
       ·have V:Hid (M++ [⟨c,-1,d⟩]=L++a4Q ⟨c,d,m,l⟩ h):=by show _=_;rw[hM,AH.out,n_ AR];simp
        clear hM;go_wp2_with (at_builtin;refine b_i _ rfl (.tmp 68) (.tmp 72) 181 rfl w.heap.size 214 iF (.agg #[i_ 0,i_ 0,i_ 0]) 3 24 underlying181 Aj An Am Ag rfl (by decide) _ M.length (a1o M) (by rfl) (by exact n.alloc _) (a__ wr.heap.size 0) 1 1 [i_ c,i_ (-1),i_ d] (by rfl) rfl (by exact b55 wr _ _ _ 214) (by intro q R;simp at R;rcases R with rfl|rfl|rfl<;>rfl) (by unfold maxLen;omega) (by omega) (by have:=j.size;simp;omega) ?nxt);case nxt=>
         intro v' w2 i H _;have Y:B__ w w2:=(j.alloc j.size _).grown H (by have:=j.size;simp;omega) (fun q R=>(n.lt q R).1);have Ay:Hid _:=HB.out.below Y
         go_wp2
         go_meet
         have h5:=V.out;exact⟨a8L i (by rw[←h5];simp) (by rw[←h5,a7T];rfl),Ay,Y⟩
       ·have V:Hid (M=L++a4Q ⟨c,d,m,l⟩ h):=by show _=_;rw[hM,AH.out,f_ AR];simp
        clear hM
        go_wp2
        go_meet
        have h5:=V.out;exact⟨a8L n (by rw[←h5]) (by rw[←h5]),AG,j⟩
    ·have V:Hid (L=L++a4Q ⟨c,d,m,l⟩ h):=by show _=_;simp[a4Q,AC]
     go_wp2
     go_meet
     have h5:=V.out;exact⟨a8L B (by rw[←h5]) (by rw[←h5]),T,Z⟩
   case rest=>
   obtain⟨i,U,As⟩:=hcut;clear T Z B;generalize hM:L++a4Q ⟨c,d,m,l⟩ h=M at*;have AJ:M.length+x.length+y.length+z'.length<100000:=by rw[←hM];simp only[x_];omega
   have HM:Hid (M++x++y++z'=r):=by have h6:=HR.out;have h7:=AY.out;rw[h7]at h6;show _=_;rw[←hM,←h6];simp
   clear hM;go_wp2_with (first|(go_at_call 78;refine(a3O b k t C A _ U.out HT.out).mono ?_;rintro x1 w3 ⟨rfl,rfl⟩));refine(IH.out f' (by omega) b t.p t.q h x C A _ U.out Ad HX.out b1 b2).mono ?_;rintro x1 w4 ⟨vx,rfl,AS,AK⟩;have Aa:=As.trans (AK.mono As.size);have I:=b1E i AK;have Ao:Hid _:=HB.out.below Aa;go_wp2_with fail;refine(IH.out f' (by omega) b t.r t.s h y C A _ Ao.out Ad HY.out b3 b4).mono ?_;rintro x1 w5 ⟨vy,rfl,AE,AA⟩;have Ab:=Aa.trans (AA.mono Aa.size);have P:=I;have J:=b1E I AA;have Aw:=b1E AS AA;clear AS I i Ao U;go_wp2_with (at_builtin;refine a8s rfl (.tmp 92) (.tmp 93) 181 rfl w.heap.size _ 214 iF (.agg #[i_ 0,i_ 0,i_ 0]) 3 24 underlying181 Aj An Am Ag rfl (by decide) _ M.length (a1o M) (by rfl) J _ x.length (a1o x) (by rfl) Aw (b2k x) ?m1 ?m2 ?m3 ?nxt);case m1=>unfold maxLen;omega
   case m2=>omega
   case m3=>have:=Ab.size;omega
   case nxt=>
   intro v6 w6 Ae N;have Ac:B__ w w6:=Ab.grown N Ab.size (fun q R=>(J.lt q R).1);have Ar:vy.ownBlock=none∨vy.ownBlock≠_:=c6e AE P;have Ax:=AE.kept N Ar;have D:w6.ownsRow w.heap.size 214 3 v6 (M++x).length (a1o (M++x)):=a8L Ae (by simp[b_r]) (by rw[a7T]);have A5:(M++x).length+y.length<100000:=by simp only[x_];omega
   clear Ae J Aw AE P Ar;go_wp2_with (at_builtin;refine a8s rfl (.tmp 95) (.tmp 96) 181 rfl w.heap.size _ 214 iF (.agg #[i_ 0,i_ 0,i_ 0]) 3 24 underlying181 Aj An Am Ag rfl (by decide) _ (M++x).length (a1o (M++x)) (by rfl) D _ y.length (a1o y) (by rfl) Ax (b2k y) ?m1 ?m2 ?m3 ?nxt);case m1=>unfold maxLen;omega
   case m2=>omega
   case m3=>have:=Ac.size;omega
   case nxt=>
   intro v7 w7 Af Ai;have At:B__ w w7:=Ac.grown Ai Ac.size (fun q R=>(D.lt q R).1);have Al:w7.ownsRow w.heap.size 214 3 v7 (M++x++y).length (a1o (M++x++y)):=a8L Af (by simp[b_r]) (by rw[a7T (M++x)]);have Ap:Hid _:=HB.out.below At;clear Af D Ax;go_wp2_with fail;refine(a0Z b k o C A _ Ap.out HV.out).mono ?_;rintro x1 w8 ⟨rfl,A4⟩;subst A4;go_wp2_with fail;go_roundw;case rel=>exact⟨o,f',M++x++y,z',rfl,by omega,by omega,Ap.out,At,Al,HZ,HM⟩
   case measure=>simp[intOf];omega
  ·have hz:=b5g HD.out (by omega);have V:Hid (L=r):=by have:=HR.out;rw[hz,a_i]at this;exact this
   have i:=O;rw[V.out]at i;clear O hz
   go_wp2
   go_ret;exact⟨_,rfl,i,Ah⟩
theorem b0q(l:List Fl):∀(i:Nat) (h:i<l.length),(a1o l)[i*3]? =some (i_ l[i].dst)∧(a1o l)[i*3+1]? =some (i_ l[i].frm)∧(a1o l)[i*3+2]? =some (i_ l[i].sec):=by
 induction l with
 |nil=>intro i h;simp at h
 |cons f r ih=>
  intro i h;cases i with
  |zero=>simp[a1o,flV]
  |succ i=>
   have:=ih i (by simpa using h);rw[show(i+1)*3=i*3+1+1+1 by omega];simpa[a1o,flV]using this
theorem b9x{w:World}{b:Nat}{v:Value}{l:List Fl}(h:w.ownsRow b 214 3 v l.length (a1o l)):
  ∃c g a,v= .slice c l.length a∧∀i,∀hi:i<l.length,c=some (a__ g 0)∧w.cell? (a__ g (i*3))=some (i_ l[i].dst)∧w.cell? (a__ g (i*3+1))=some (i_ l[i].frm)∧w.cell? (a__ g (i*3+2))=some (i_ l[i].sec):=by
 rcases Joins.ownsRow_forms h with⟨rfl,d⟩|⟨g,a,rfl⟩
 ·exact⟨none,0,0,by rw[d],fun i hi=>absurd hi (by omega)⟩
 ·refine⟨some (a__ g 0),g,a,rfl,fun i hi=>⟨rfl,?_,?_,?_⟩⟩
  ·rw[h.cellAt (i*3) (by omega)];exact(b0q l i hi).1
  ·rw[h.cellAt (i*3+1) (by omega)];exact(b0q l i hi).2.1
  ·rw[h.cellAt (i*3+2) (by omega)];exact(b0q l i hi).2.2
theorem c2Z{b:Nat→Nat→Option (Bool×Nat)}{x s k a:Nat}{l:List Fl}(c:k<l.length):a6F b x s (l.drop k) a=
  if¬l[k].dst=(x:Int)then a6F b x s (l.drop (k+1)) a
  else if l[k].frm<0∧l[k].sec.toNat&&&s≠0 then some (true,a)
  else if 0≤l[k].frm∧a&&&2^l[k].frm.toNat=0 then
   match b l[k].frm.toNat a with
   |none=>none
   |some (true,more)=>some (true,more)
   |some (false,more)=>a6F b x s (l.drop (k+1)) more
  else a6F b x s (l.drop (k+1)) a:=by
 rw[u_ c];rfl
theorem c6i{a c:Bool}{b d:Int}(e:a=c)(f:b=d):Ending.returned (.tuple #[.bool a,i_ b])= .returned (.tuple #[.bool c,i_ d]):=by rw[e,f]
theorem b53(F:Nat):∀(b x s d g:Nat) (v:Value) (l:List Fl) (r:Bool×Nat) (C:List UInt8) (A:List Int) (w:World) (Z:a0A w b C A) (U:w.ownsRow g 214 3 v l.length (a1o l)) (E:l.length<100000) (i:a8g l)
  (hx:x<26) (hs:s<16) (f:d<2^26) (u:a54 C l s F x d=some r),
  Calls prog 108 #[.pointer (some (a__ b 0)),v,i_ x,i_ s,i_ d] w fun e w'=>e= .returned (.tuple #[.bool r.1,i_ r.2])∧w'=w∧r.2<2^26:=by
 induction F with
 |zero=>intro b x s d g v l r C A w Z U E i hx hs f u;cases u
 |succ F ih=>
 intro b x s d g v l r C A w Z U E i hx hs f u;unfold a54 at u;cases T:a6d C (x:Int)with
 |none=>rw[T]at u;cases u
 |some h=>
 rw[T]at u;have Af:=c4d T;have X:=h__ Z;have HH:=h__ T;clear Z T;by_cases Y:0≤h
 ·obtain⟨hn,rfl⟩:=a_C Y;simp only[Y,a_b,U_]at u;subst u;have P:=a9E hn s (by omega) (by omega);go_enter func108,ntmps108;go_wp2_with (first|(go_at_call 148;refine(b7e b x _ C A _ X.out HH.out).mono ?_;rintro x1 w' ⟨rfl,rfl⟩));go_ret2;exact⟨c6i (by rw[M_];simp) rfl,rfl,f⟩
 ·simp only[Y,a_g]at u;have B:=b7L d x 26 f hx (by omega);have IH:=h__ ih;have HO:=h__ u;have HL:=h__ U;obtain⟨ao,gg,O,rfl,R⟩:=b9x U;have N:=h__ R;clear R;have th:decide (0≤h)=false:=by simp[Y]
  clear ih u U;have Ag:=B.1;have Ad:=B.2;clear B;generalize d|||2^x=L at*
  go_enter func108,ntmps108;go_wp2_with (first|(go_at_call 148;refine(b7e b x _ C A _ X.out HH.out).mono ?_;rintro x1 w' ⟨rfl,rfl⟩))
  go_loop [4,13] (fun y z=>∃(k m:Nat),z=i_ k∧y=i_ m∧k≤l.length∧m<2^26∧Hid (a6F (a54 C l s F) x s (l.drop k) m=some r)) (fun _ z=>l.length-(intOf z).toNat)
  case atStart=>exact⟨0,L,rfl,rfl,by omega,Ad,HO⟩
  case round=>
   obtain⟨k,m,rfl,rfl,hk,j,HS⟩:=hrel;by_cases p:k<l.length
   ·obtain⟨rfl,c0,c1,c2⟩:=N.out k p;clear N;have a:=HS.out;rw[c2Z p]at a;have Aa:=(i.frm _ (P_ p)).1;have Ab:=(i.frm _ (P_ p)).2;have V:=(i.sec _ (P_ p)).1;have Ae:=(i.sec _ (P_ p)).2;generalize l[k]=q at*;obtain⟨qd,qf,qs⟩:=q;simp only at a Aa Ab V Ae c0 c1 c2;by_cases M:qd=(x:Int)
    ·rw[f_ (fun h=>h M)]at a;have td:(qd !=(x:Int))=false:=by simp[M]
     clear M;by_cases S:qf<0
     ·obtain⟨sc,rfl⟩:=a_C V;have P:=a9E sc s (by omega) (by omega);have Ac:¬0≤qf:=by omega
      by_cases t:sc&&&s=0
      ·rw[f_ (fun h=>h.2 (by simpa using t)),f_ (fun h=>Ac h.1)]at a;have c:=h__ a;have ta:(bits .and .i64 (sc:Int) (s:Int) !=0)=false:=by rw[P,t];rfl
       clear a P t
       go_wp2
       exact⟨⟨k+1,m,by go_num,rfl,by omega,j,c⟩,by simp[intOf];omega⟩
      ·rw[n_ ⟨S,by simpa using t⟩]at a;have I:r=(true,m):=by simpa using a.symm
       have c:=h__ I;clear I;have ta:(bits .and .i64 (sc:Int) (s:Int) !=0)=true:=by rw[P];simpa using t
       clear a P t
       go_wp2
       go_ret2;have:=c.out;subst this;exact⟨rfl,rfl,j⟩
     ·rw[f_ (fun h=>S h.1)]at a;obtain⟨J,rfl⟩:=a_C (show 0≤qf by omega);have D:=b4o m J 26 j (by omega) (by omega);by_cases t:m&&&2^J=0
      ·rw[n_ ⟨by omega,by simpa using t⟩]at a;simp only[W_]at a;have ta:(bits .and .i64 (m:Int) (wrap64 (2^J))==0)=true:=by rw[D,t];rfl
       cases o:a54 C l s F J m with
       |none=>rw[o]at a;cases a
       |some rr=>
       obtain⟨ok,H⟩:=rr;rw[o]at a;have G:=h__ o;clear D t o;cases ok
       ·have c:=h__ a;clear a;go_wp2_with (go_at_call 108;refine(IH.out b J s m g (.slice (some (a__ gg 0)) l.length O) l _ C A _ X.out HL.out E i (by omega) hs j G.out).mono ?_;rintro x1 w' ⟨rfl,rfl,n⟩);exact⟨⟨k+1,H,by go_num,rfl,by omega,n,c⟩,by simp[intOf];omega⟩
       ·have I:r=(true,H):=by simpa using a.symm
        have c:=h__ I;clear I;clear a;go_wp2_with (go_at_call 108;refine(IH.out b J s m g (.slice (some (a__ gg 0)) l.length O) l _ C A _ X.out HL.out E i (by omega) hs j G.out).mono ?_;rintro x1 w' ⟨rfl,rfl,n⟩);go_ret2;have:=c.out;subst this;exact⟨rfl,rfl,n⟩
      ·rw[f_ (fun h=>t (by simpa using h.2))]at a;have c:=h__ a;have ta:(bits .and .i64 (m:Int) (wrap64 (2^J))==0)=false:=by rw[D];simpa using t
       clear a D t
       go_wp2
       exact⟨⟨k+1,m,by go_num,rfl,by omega,j,c⟩,by simp[intOf];omega⟩
    ·rw[n_ M]at a;have c:=h__ a;have td:(qd !=(x:Int))=true:=by simp[M]
     clear a M
     go_wp2
     exact⟨⟨k+1,m,by go_num,rfl,by omega,j,c⟩,by simp[intOf];omega⟩
   ·have I:r=(false,m):=by
     have:=HS.out;rw[C_ (by omega)]at this;simpa[a6F]using this.symm
    have c:=h__ I;clear I
    go_wp2
    go_ret2;have:=c.out;subst this;exact⟨rfl,rfl,j⟩
def a0L:List Nat:=List.replicate 26 0
theorem a0w.keep{w w':World}{B K:Nat}{of:List Nat}(h:a0w w B of)(b:Below K w w')(a:B<K):a0w w' B of:=by
 have:=b.block B a;unfold a0w at*;rw[this,h]
theorem a0w.frozen{w:World}{B:Nat}{of:List Nat}(h:a0w w B of)(k:Nat):w.frozen? (a__ B k)=false:=by
 unfold a0w at h;simp[World.frozen?,h]
theorem a0w.set{w:World}{B:Nat}{of:List Nat}(h:a0w w B of)(k m:Nat):a0w (w.setCell (a__ B k) (i_ (m:Nat))) B (of.set k m):=by
 unfold a0w at*;rw[heap_setCell_same w B k _ _ _ h];congr 2;apply Array.ext';simp[a0i,a23,List.map_set]
theorem a0w.setRow{w:World}{B:Nat}{of:List Nat}(a:List Nat)(h:a0w w B of):a0w (w.setRow B (a0i a)) B a:=by
 unfold a0w at*;exact a_N w B _ _ _ _ h
theorem below_setRow{w w':World}{B K:Nat}{cs:Array Value}(h:Below K w w')(a:K≤B):Below K w (w'.setRow B cs):=by
 refine h.trans ⟨rfl,rfl,rfl,by simp,fun k b=> ?_⟩;simp only[World.setRow];rw[Array.getElem?_modify,f_ (by omega)]
theorem a6a(of:List Nat):(a0i of).all (·.oneCell')=true:=by
 rw[Array.all_eq_true_iff_forall_mem];intro v a;simp[a0i,a23]at a;obtain⟨n,_,rfl⟩:=a;rfl
theorem b0c:a0i a0L= #[i_ 0,i_ 0,i_ 0,i_ 0,i_ 0,i_ 0,i_ 0,i_ 0,i_ 0,i_ 0,i_ 0,i_ 0,i_ 0,i_ 0,i_ 0,i_ 0,i_ 0,i_ 0,i_ 0,i_ 0,i_ 0,i_ 0,i_ 0,i_ 0,i_ 0,i_ 0]:=by rfl
theorem a5k(w:World):a0w (w.alloc (.cells #[i_ 0,i_ 0,i_ 0,i_ 0,i_ 0,i_ 0,i_ 0,i_ 0,i_ 0,i_ 0,i_ 0,i_ 0,i_ 0,i_ 0,i_ 0,i_ 0,i_ 0,i_ 0,i_ 0,i_ 0,i_ 0,i_ 0,i_ 0,i_ 0,i_ 0,i_ 0] 69)) w.heap.size a0L:=by
 have:=a0w.new w a0L;rwa[b0c]at this
theorem b29(w:World):a0w ((w.alloc (.cells #[i_ 0,i_ 0,i_ 0,i_ 0,i_ 0,i_ 0,i_ 0,i_ 0,i_ 0,i_ 0,i_ 0,i_ 0,i_ 0,i_ 0,i_ 0,i_ 0,i_ 0,i_ 0,i_ 0,i_ 0,i_ 0,i_ 0,i_ 0,i_ 0,i_ 0,i_ 0] 69)).alloc (.cells #[i_ 0,i_ 0,i_ 0,i_ 0,i_ 0,i_ 0,i_ 0,i_ 0,i_ 0,i_ 0,i_ 0,i_ 0,i_ 0,i_ 0,i_ 0,i_ 0,i_ 0,i_ 0,i_ 0,i_ 0,i_ 0,i_ 0,i_ 0,i_ 0,i_ 0,i_ 0] 69)) w.heap.size a0L∧a0w ((w.alloc (.cells #[i_ 0,i_ 0,i_ 0,i_ 0,i_ 0,i_ 0,i_ 0,i_ 0,i_ 0,i_ 0,i_ 0,i_ 0,i_ 0,i_ 0,i_ 0,i_ 0,i_ 0,i_ 0,i_ 0,i_ 0,i_ 0,i_ 0,i_ 0,i_ 0,i_ 0,i_ 0] 69)).alloc (.cells #[i_ 0,i_ 0,i_ 0,i_ 0,i_ 0,i_ 0,i_ 0,i_ 0,i_ 0,i_ 0,i_ 0,i_ 0,i_ 0,i_ 0,i_ 0,i_ 0,i_ 0,i_ 0,i_ 0,i_ 0,i_ 0,i_ 0,i_ 0,i_ 0,i_ 0,i_ 0] 69)) (w.heap.size+1) a0L∧B__ w ((w.alloc (.cells #[i_ 0,i_ 0,i_ 0,i_ 0,i_ 0,i_ 0,i_ 0,i_ 0,i_ 0,i_ 0,i_ 0,i_ 0,i_ 0,i_ 0,i_ 0,i_ 0,i_ 0,i_ 0,i_ 0,i_ 0,i_ 0,i_ 0,i_ 0,i_ 0,i_ 0,i_ 0] 69)).alloc (.cells #[i_ 0,i_ 0,i_ 0,i_ 0,i_ 0,i_ 0,i_ 0,i_ 0,i_ 0,i_ 0,i_ 0,i_ 0,i_ 0,i_ 0,i_ 0,i_ 0,i_ 0,i_ 0,i_ 0,i_ 0,i_ 0,i_ 0,i_ 0,i_ 0,i_ 0,i_ 0] 69)):=by
 refine⟨?_,?_,?_⟩
 ·exact(a5k w).keep (K:=w.heap.size+1) ((g_ _ _).alloc (by simp) _) (by omega)
 ·have:=a5k (w.alloc (.cells #[i_ 0,i_ 0,i_ 0,i_ 0,i_ 0,i_ 0,i_ 0,i_ 0,i_ 0,i_ 0,i_ 0,i_ 0,i_ 0,i_ 0,i_ 0,i_ 0,i_ 0,i_ 0,i_ 0,i_ 0,i_ 0,i_ 0,i_ 0,i_ 0,i_ 0,i_ 0] 69));simpa using this
 ·exact((g_ _ _).alloc (a_ _) _).alloc (by simp) _
theorem c3m(w:World):a0w ((w.alloc (.cells #[i_ 0,i_ 0,i_ 0,i_ 0,i_ 0,i_ 0,i_ 0,i_ 0,i_ 0,i_ 0,i_ 0,i_ 0,i_ 0,i_ 0,i_ 0,i_ 0,i_ 0,i_ 0,i_ 0,i_ 0,i_ 0,i_ 0,i_ 0,i_ 0,i_ 0,i_ 0] 69)).alloc (.cells #[i_ 0,i_ 0,i_ 0,i_ 0,i_ 0,i_ 0,i_ 0,i_ 0,i_ 0,i_ 0,i_ 0,i_ 0,i_ 0,i_ 0,i_ 0,i_ 0,i_ 0,i_ 0,i_ 0,i_ 0,i_ 0,i_ 0,i_ 0,i_ 0,i_ 0,i_ 0] 69)).drew w.heap.size a0L∧a0w ((w.alloc (.cells #[i_ 0,i_ 0,i_ 0,i_ 0,i_ 0,i_ 0,i_ 0,i_ 0,i_ 0,i_ 0,i_ 0,i_ 0,i_ 0,i_ 0,i_ 0,i_ 0,i_ 0,i_ 0,i_ 0,i_ 0,i_ 0,i_ 0,i_ 0,i_ 0,i_ 0,i_ 0] 69)).alloc (.cells #[i_ 0,i_ 0,i_ 0,i_ 0,i_ 0,i_ 0,i_ 0,i_ 0,i_ 0,i_ 0,i_ 0,i_ 0,i_ 0,i_ 0,i_ 0,i_ 0,i_ 0,i_ 0,i_ 0,i_ 0,i_ 0,i_ 0,i_ 0,i_ 0,i_ 0,i_ 0] 69)).drew (w.heap.size+1) a0L∧B__ w ((w.alloc (.cells #[i_ 0,i_ 0,i_ 0,i_ 0,i_ 0,i_ 0,i_ 0,i_ 0,i_ 0,i_ 0,i_ 0,i_ 0,i_ 0,i_ 0,i_ 0,i_ 0,i_ 0,i_ 0,i_ 0,i_ 0,i_ 0,i_ 0,i_ 0,i_ 0,i_ 0,i_ 0] 69)).alloc (.cells #[i_ 0,i_ 0,i_ 0,i_ 0,i_ 0,i_ 0,i_ 0,i_ 0,i_ 0,i_ 0,i_ 0,i_ 0,i_ 0,i_ 0,i_ 0,i_ 0,i_ 0,i_ 0,i_ 0,i_ 0,i_ 0,i_ 0,i_ 0,i_ 0,i_ 0,i_ 0] 69)).drew:=
 ⟨(b29 w).1,(b29 w).2.1,(b29 w).2.2.drew⟩
theorem c2a{C:List UInt8}{l:List Fl}{k:Nat}{R:List Nat}(c:k<26)(h:a4L C l (26-k)=some R):∃m r,R=m::r∧a6Q C l k 4 0=some m∧a4L C l (26-(k+1))=some r:=by
 rw[show 26-k=(26-(k+1))+1 by omega]at h;unfold a4L at h;rw[show 25-(26-(k+1))=k by omega]at h;cases a:a6Q C l k 4 0 with
 |none=>rw[a]at h;cases h
 |some m=>
 cases b:a4L C l (26-(k+1))with
 |none=>rw[a,b]at h;cases h
 |some r=>
 rw[a,b]at h;cases h;exact⟨m,r,rfl,rfl,rfl⟩
theorem c4X{C:List UInt8}{l:List Fl}{k j m M:Nat}(c:j<4)(h:a6Q C l k (4-j) m=some M):∃ok a,a54 C l (2^j) 27 k 0=some (ok,a)∧(ok=true→a6Q C l k (4-(j+1)) (m|||2^j)=some M)∧(ok=false→a6Q C l k (4-(j+1)) m=some M):=by
 rw[show 4-j=(4-(j+1))+1 by omega]at h;unfold a6Q at h;rw[show 3-(4-(j+1))=j by omega]at h;cases b:a54 C l (2^j) 27 k 0 with
 |none=>rw[b]at h;cases h
 |some q=>
 obtain⟨ok,a⟩:=q;rw[b]at h;refine⟨ok,a,rfl,fun e=> ?_,fun e=> ?_⟩
 ·subst e;exact h
 ·subst e;exact h
theorem b3C(b:Nat)(l:List Fl)(R:List Nat)(C:List UInt8)(A:List Int)(w:World)(hb:a0A w b C A)(z:a5x C=some l)(Aj:a8g l)(ho:a4L C l 26=some R):
  Calls prog 74 #[.pointer (some (a__ b 0))] w fun e w'=>e= .returned (.agg (a0i R))∧B__ w w':=by
 unfold a5x at z;cases G:a2U C with
 |none=>rw[G]at z;cases z
 |some B=>
 rw[G]at z;have Ah:=b67 z;have HB:Hid (a0A w b C A):=hb;have An:Hid (a2U C=some B):=G;have Ao:Hid (a2j C (C.length+1) B C.length 0=some l):=z;have HO:Hid (a4L C l 26=some R):=ho;obtain⟨hC,hA,ac,aa,bc,ba,Az,Ay,h0,h1,hc,ha⟩:=hb;have Ar:B≤500:=by have:=a5j G;omega
 clear G z ho hc ha;go_enter func74,ntmps74;go_upto_region 2 with fail
 go_cut [4]from 9 to 17 (fun v wx=>a0w wx w.heap.size a0L∧a0w wx (w.heap.size+1) a0L∧B__ w wx∧∃y,wx.ownsRow y 214 3 v l.length (a1o l))
 case first=>
  have t:b<w.heap.size:=b_p h0;have AA:b<w.heap.size+1:=by omega
  go_region_with (first|(go_at_call 47;refine(a4g b B C A _ (by exact HB.out.below (((g_ w.heap.size w).alloc (a_ _) _).alloc (by simp) _).drew) An.out).mono ?_;rintro x1 w1 ⟨rfl,Ax⟩;subst Ax)|(go_at_call 107;refine(c1W _ b B C.length 0 l C A _ (by exact HB.out.below (((g_ w.heap.size w).alloc (a_ _) _).alloc (by simp) _).drew) (by decide) Ao.out Ar (by omega)).mono ?_;rintro x1 w1 ⟨v,rfl,o,O⟩));all_goals (go_wp2_with fail;go_meet)
  all_goals
   have F:=c3m w;have At:=F.2.2.trans (O.mono F.2.2.size);exact⟨F.1.keep O F.1.lt,F.2.1.keep O F.2.1.lt,At,_,o⟩
 case rest=>
  obtain⟨u,s,t,y,o⟩:=hcut;obtain⟨ao,gg,Ab,hv,_⟩:=b9x o;subst hv;clear h0 h1;go_wp2_with fail;go_loopw [5] (fun x w'=>∃(k:Nat) (D r:List Nat),x=i_ k∧k≤26∧D.length=k∧a0w w' w.heap.size a0L∧a0w w' (w.heap.size+1) (D++List.replicate (26-k) 0)∧B__ w w'∧w'.ownsRow y 214 3 (.slice ao l.length Ab) l.length (a1o l)∧Hid (a4L C l (26-k)=some r)∧Hid (D++r=R)) (fun x w'=>26-(intOf x).toNat);case atStart=>exact⟨0,[],R,rfl,by omega,rfl,u,s,t,o,HO,rfl⟩
  case round=>
   obtain⟨k,D,r,rfl,hk,hD,u,s,t,o,HL,HR⟩:=hrel;by_cases Av:k<26
   ·obtain⟨m0,r',hr,J,I⟩:=c2a Av HL.out;have X:=h__ I;have Ap:Hid (D++m0::r'=R):=by have:=HR.out;rw[hr]at this;exact this
    have Z:=h__ J;clear hr J I;have AF:decide ((k:Int)<26)=true:=by simp;omega
    go_wp2_with fail;go_loopw [6] (fun x w'=>∃(j m p:Nat),x=i_ p∧j≤4∧m<16∧Hid (p=2^j)∧a0w w' w.heap.size a0L∧a0w w' (w.heap.size+1) (D++m::List.replicate (26-(k+1)) 0)∧B__ w w'∧w'.ownsRow y 214 3 (.slice ao l.length Ab) l.length (a1o l)∧Hid (a6Q C l k (4-j) m=some m0)) (fun x w'=>16-(intOf x).toNat);case atStart=>exact⟨0,0,1,rfl,by omega,by omega,rfl,u,by rw[show 26-k=(26-(k+1))+1 by omega,a_4]at s;exact s,t,o,Z⟩
    case round=>
     obtain⟨j,m,p,rfl,hj,hm,Y,u,s,t,o,HS⟩:=hrel;have AE:1≤p:=by rw[Y.out];exact Nat.one_le_two_pow
     by_cases Af:j<4
     ·obtain⟨ok,sn,U,E,S⟩:=c4X Af HS.out;have T:p<16:=by have h9:2^j<2^4:=a_1 (by omega) Af;rw[Y.out];omega
      rw[←Y.out]at U E;have Al:2*p=2^(j+1):=by rw[Y.out,b_l];omega
      have M:Hid (2*p=2^(j+1)):=Al;have HT:=h__ U;have V:Hid (a0A wr b C A):=HB.out.below t;have P:=s.cell k (by simp;omega);have Ae:(D++m::List.replicate (26-(k+1)) 0).getD k 0=m:=by rw[←hD];simp
      rw[Ae]at P;have AC:=s.frozen k;clear U Ae Al;cases ok
      ·have HN:Hid _:=S rfl;clear E S;go_wp2_with (go_at_call 108;refine(b53 27 b k p 0 y _ l _ C A _ V.out o Ah Aj (by omega) T (by decide) HT.out).mono ?_;rintro x1 w' ⟨rfl,rfl,_⟩);go_roundw;case rel=>first|exact⟨j+1,m,2*p,by go_num,by omega,hm,M,u,s,t,o,HN⟩|((repeat apply Exists.intro);refine⟨?_,rfl⟩;exact⟨j+1,m,2*p,by go_num,by omega,hm,M,u,s,t,o,HN⟩)
       case measure=>simp[intOf];omega
      ·have HN:Hid _:=E rfl;have AD:=a2u m p (by omega) (by omega);have Aw:=a34 hm T;clear E S;go_wp2_with (go_at_call 108;refine(b53 27 b k p 0 y _ l _ C A _ V.out o Ah Aj (by omega) T (by decide) HT.out).mono ?_;rintro x1 w' ⟨rfl,rfl,_⟩);go_roundw;case rel=>
        have L:=s.set k (m|||p);rw[show(D++m::List.replicate (26-(k+1)) 0).set k (m|||p)=D++(m|||p)::List.replicate (26-(k+1)) 0 by rw[←hD];simp]at L;have Ac:=(g_ (w.heap.size+1) w').setCell (p:=⟨w.heap.size+1,k,none⟩) (a_ _) (i_ ((m|||p:Nat):Int));exact⟨j+1,m|||p,2*p,by go_num,by omega,Aw,M,u.keep Ac (by omega),L,t.trans (Ac.mono (by omega)),ownsRow_setCell_other o (by intro e;obtain⟨c,fz,q⟩:=Lib.ownsRow_kind o _ e;unfold a0w at s;simp only at q;rw[q]at s;cases s) _,HN⟩
       case measure=>simp[intOf];omega
     ·have Ak:p=16:=by rw[Y.out,show j=4 by omega]
      have Au:j=4:=by omega
      have Ai:m=m0:=by have:=HS.out;rw[Au]at this;simpa[a6Q]using this
      have HM:Hid (m=m0):=Ai;clear Ai;have AB:¬p<16:=by omega
      clear Ak;go_wp2_with fail;go_roundw;case rel=>exact⟨k+1,D++ [m],r',by go_num,by omega,by simp[hD],u,by simpa using s,t,o,X,by show _=_;rw[HM.out];have:=Ap.out;simpa using this⟩
      case measure=>simp[intOf];omega
   ·have hr:r= []:=by have:=HL.out;rw[show 26-k=0 by omega]at this;simpa[a4L]using this.symm
    have N:D=R:=by have:=HR.out;rw[hr]at this;simpa using this
    have Ag:26-k=0:=by omega
    rw[Ag]at s;simp only[List.replicate_zero,a_i]at s;have As:R.length=26:=by rw[←N];omega
    rw[N]at s;have H:(a0i R).size=26:=by simp[a0i,As]
    have Am:(a0i a0L).size=26:=by rfl
    have Aa:Hid (a0w wr w.heap.size a0L):=u;have Aq:Hid (a0w wr (w.heap.size+1) R):=s;clear u s N hr;go_wp2_with (first|(refine a_l rfl 69 (.tmp 3) rfl (w.heap.size+1) rfl 69 (a0i R) (0,0) _ Aq.out underlying69 rfl (by rw[a0V,H]) ?_)|(refine a_k rfl 69 (.tmp 2) (.tmp 42) rfl w.heap.size (a0i R) rfl rfl 69 (a0i a0L) Aa.out (by rw[a0V,H]) (by rw[H,Am]) (a6a R) ?_));have Ad:=Aa.out.setRow R;exact m_ (v:= .agg (a0i R)) (a_O rfl _ _ w.heap.size 69 (a0i R) (0,0) _ rfl Ad underlying69 rfl (by rw[a0V,H])) rfl ⟨rfl,below_setRow t (a_ _)⟩
def a8R(t:List UInt8):Option (Int×Int):=
 if 400<t.length then some (1,0)
 else if 0≤placeOf t then some (2,placeOf t)
 else
  match a7m (a0a t) (atL t 0)with
  |none=>none
  |some tw=>
   if 0≤tw then some (3,tw)
   else
    match a2U (a0a t)with
    |none=>none
    |some B=>
     match a2S (a0a t) ((a0a t).length+1) B (a0a t).length with
     |none=>none
     |some wk=>
      if 5000<wk then some (4,0)
      else
       match a5x (a0a t),a7E (a0a t)with
       |some l,some R=>
        match a2D (a0a t) (atL t 0) R ((a0a t).length+1) B (a0a t).length 0 with
        |none=>none
        |some d=>if 0≤d then some (5,d)else some (0,0)
       |_,_=>none
theorem c0i(s:ByteArray)(w:World)(a:s.size≤maxLen)(h:400<s.size):
  Calls prog 43 #[.string s] w fun e w'=>e= .returned (.tuple #[i_ 1,i_ 0])∧B__ w w':=by
 unfold maxLen at a;go_enter func43,ntmps43;go_wp2_with fail;go_ret2;exact⟨rfl,g_ _ _⟩
theorem b6g(s:ByteArray)(w:World)(h:s.size≤400)(d:0≤placeOf s.data.toList):
  Calls prog 43 #[.string s] w fun e w'=>e= .returned (.tuple #[i_ 2,i_ (placeOf s.data.toList)])∧B__ w w':=by
 generalize a:placeOf s.data.toList=f at*;have b:=h__ a;clear a;go_enter func43,ntmps43;go_wp2_with (go_at_call 71;refine(a9r s _ h).mono ?_;rintro i g ⟨rfl,c⟩;rw[b.out]);go_ret2;exact⟨rfl,c⟩
theorem c0j(s:ByteArray)(w:World)(j:Int)(h:s.size≤400)(z:¬0≤placeOf s.data.toList)(i:a7m (a0a s.data.toList) (atL s.data.toList 0)=some j)(y:0≤j):
  Calls prog 43 #[.string s] w fun e w'=>e= .returned (.tuple #[i_ 3,i_ j])∧B__ w w':=by
 generalize g:placeOf s.data.toList=B at*;have m:=h__ g;generalize d:a0a s.data.toList=C at*;generalize c:atL s.data.toList 0=A at*;have l:=h__ d;have k:=h__ c;clear g d c;have n:=h__ i;clear i;go_enter func43,ntmps43;go_wp2_with (first|(go_at_call 71;refine(a9r s _ h).mono ?_;rintro v x ⟨rfl,f⟩;rw[m.out])|(go_at_call 44;refine(a81 s _ h).mono ?_;rintro v D ⟨rfl,p,a⟩;rw[l.out,k.out]at a)|(go_at_call 72;refine(b1U _ j C A _ a n.out).mono ?_;rintro v u ⟨rfl,b⟩;have t:a0A u x.heap.size C A:=(by obtain⟨r,o⟩:=b;rw[o];exact a.drewN r);have q:B__ w u:=(by obtain⟨r,o⟩:=b;rw[o];exact below_drewN (f.trans (p.mono f.size)) r);clear b a));go_ret2;exact⟨rfl,q⟩
theorem b8C(s:ByteArray)(w:World)(z:Int)(B wk:Nat)(h:s.size≤400)(Z:¬0≤placeOf s.data.toList)(n:a7m (a0a s.data.toList) (atL s.data.toList 0)=some z)(U:¬0≤z)
  (d:a2U (a0a s.data.toList)=some B) (g:a2S (a0a s.data.toList) ((a0a s.data.toList).length+1) B (a0a s.data.toList).length=some wk) (V:5000<wk):
  Calls prog 43 #[.string s] w fun e w'=>e= .returned (.tuple #[i_ 4,i_ 0])∧B__ w w':=by
 generalize m:placeOf s.data.toList=pl at*;have r:=h__ m;generalize k:a0a s.data.toList=C at*;generalize j:atL s.data.toList 0=A at*;have q:=h__ k;have o:=h__ j;clear m k j;have t:=h__ n;clear n;have H:=a5j d;have L:=b17 g;have p:=h__ d;have u:=h__ g;clear d g;go_enter func43,ntmps43;go_upto_region 10 with(first|(go_at_call 71;refine(a9r s _ h).mono ?_;rintro G M ⟨rfl,c⟩;rw[r.out])|(go_at_call 44;refine(a81 s _ h).mono ?_;rintro G w2 ⟨rfl,l,b⟩;rw[q.out,o.out]at b)|(go_at_call 72;refine(b1U _ z C A _ b t.out).mono ?_;rintro G F ⟨rfl,f⟩;have a:a0A F M.heap.size C A:=(by obtain⟨y,v⟩:=f;rw[v];exact b.drewN y);have x:B__ w F:=(by obtain⟨y,v⟩:=f;rw[v];exact below_drewN (c.trans (l.mono c.size)) y);clear f b));obtain⟨Y,X,O,N,R,P,E,D,S,T,J,I⟩:=id a;have i:=h__ a;clear a J I c l;go_quiet ((first|(go_at_call 47;exact Calls.quiet_of_same (a4g _ B C A _ (i.out.drewN _) p.out))|(go_at_call 73;exact Calls.quiet_of_same (b8A _ _ B C.length wk C A _ (i.out.drewN _) u.out (by omega) (by omega)))));go_wp2_with fail;go_ret2;exact⟨rfl,below_drewN x _⟩
theorem c2F(w:World)(R:List Nat):(w.alloc (.cells (a0i R) 69)).rangeAt w.heap.size 0 (R.map a23):=by
 intro j v a;rw[a_m,F_ _ _ _ _ _ _ (heap_alloc_last w _)];simpa[a0i]using a
theorem b3X{W a:World}{g o:Nat}{cs:List Value}(b:B__ W a)(h:W.rangeAt g o cs):a.rangeAt g o cs:=by
 intro j v c;have:=h j v c;rw[b.cell (b_p this)];exact this
theorem c0h(s:ByteArray)(w:World)(tw d:Int)(B wk:Nat)(l:List Fl)(R:List Nat)(h:s.size≤400)(hp:¬0≤placeOf s.data.toList)(Ad:a7m (a0a s.data.toList) (atL s.data.toList 0)=some tw)(h3:¬0≤tw)
  (I:a2U (a0a s.data.toList)=some B) (M:a2S (a0a s.data.toList) ((a0a s.data.toList).length+1) B (a0a s.data.toList).length=some wk) (h4:¬5000<wk)
  (o:a5x (a0a s.data.toList)=some l) (q:a7E (a0a s.data.toList)=some R) (X:a2D (a0a s.data.toList) (atL s.data.toList 0) R ((a0a s.data.toList).length+1) B (a0a s.data.toList).length 0=some d):
  Calls prog 43 #[.string s] w fun e w'=>e= .returned (if 0≤d then .tuple #[i_ 5,i_ d]else .tuple #[i_ 0,i_ 0])∧B__ w w':=by
 generalize v:(if 0≤d then Value.tuple #[i_ 5,i_ d]else .tuple #[i_ 0,i_ 0])=Az;have f:=h__ v;clear v;generalize Aa:placeOf s.data.toList=pl at*;have Ak:=h__ Aa;generalize S:a0a s.data.toList=C at*;generalize P:atL s.data.toList 0=A at*;have Ag:=h__ S;have Af:=h__ P;clear Aa S P;have Al:=h__ Ad;clear Ad;have Ax:=a5j I;have Ay:=b17 M;have x:=h__ I;have Am:=h__ M;have b:a4L C l 26=some R:=by unfold a7E at q;rw[o]at q;exact q
 have Aq:a8g l:=by
  have J:=o;unfold a5x at J;rw[x.out]at J;exact a7A _ _ _ _ _ J
 obtain⟨D,T⟩:=b0B _ _ b;have Ac:(a0i R).size=26:=by simp[a0i,D]
 have Ah:=h__ X;have Ai:=h__ o;have Aj:=h__ b;have O:=h__ D;clear I M o q b X D;go_enter func43,ntmps43;go_upto_region 10 with(first|(go_at_call 71;refine(a9r s _ h).mono ?_;rintro x1 w1 ⟨rfl,E⟩;rw[Ak.out])|(go_at_call 44;refine(a81 s _ h).mono ?_;rintro x1 w2 ⟨rfl,U,n⟩;rw[Ag.out,Af.out]at n)|(go_at_call 72;refine(b1U _ tw C A _ n Al.out).mono ?_;rintro x1 w3 ⟨rfl,L⟩;have j:a0A w3 w1.heap.size C A:=(by obtain⟨n3,e3⟩:=L;rw[e3];exact n.drewN n3);have F:B__ w w3:=(by obtain⟨n3,e3⟩:=L;rw[e3];exact below_drewN (E.trans (U.mono E.size)) n3);clear L n));obtain⟨hC,hA,ac,aa,bc,ba,At,As,h0,h1,hc,ha⟩:=id j;have a:=h__ j;clear j hc ha E U;go_quiet ((first|(go_at_call 47;exact Calls.quiet_of_same (a4g _ B C A _ (a.out.drewN _) x.out))|(go_at_call 73;exact Calls.quiet_of_same (b8A _ _ B C.length wk C A _ (a.out.drewN _) Am.out (by omega) (by omega)))));go_wp2_with (first|(go_at_call 74;refine(b3C _ l R C A _ (a.out.drewN _) Ai.out Aq Aj.out).mono ?_;rintro x1 r ⟨rfl,G⟩)|(refine a_k rfl 69 (.tmp 7) (.tmp 35) rfl r.heap.size (a0i R) rfl rfl 69 (a0i a0L) (by exact a5k r) (by rw[a0V,Ac]) (by rw[Ac];rfl) (a6a R) ?_;rw[World.setRow_alloc_new]));simp only[Act.put];have g:B__ w r:=(below_drewN F _).trans (G.mono (by have:=F.size;simpa using this));have t:a0A r w1.heap.size C A:=(a.out.drewN _).below G;clear G F a h0 h1;have m:B__ r (r.alloc (.cells (a0i R) 69)):=(g_ _ _).alloc (a_ _) _;have Ab:=c2F r R;have V:=g.trans (m.mono g.size);have k:=t.below m;clear t g m;generalize Ap:r.heap.size=gg at*;generalize r.alloc (.cells (a0i R) 69)=W5 at*;obtain⟨_,_,An,Au,Aw,Av,z,Ao,k0,k1,_,_⟩:=id k;have a:=h__ k;have N:=h__ V;clear k V Ap;have Z:w1.heap.size<W5.heap.size:=b_p k0;have Ae:=underlying69;have Y:(prog.info? 69).map (fun i=>i.size)=some (R.map a23).length:=by rw[a0V,a_Z,O.out]
 go_region_held3 (fun w'=>w'.rangeAt gg 0 (R.map a23)∧w'.cell? (a__ w1.heap.size 0)=some (.slice An C.length z)) (first|go_keep|exact⟨b3X H Ab,(H.cell (p:=(a__ w1.heap.size 0)) Z).trans k0⟩) (first|(go_at_call 47;refine(a4g _ B C A _ (by exact a.out.below (g_ _ _).drew) x.out).mono ?_;rintro x1 w5 ⟨rfl,Ar⟩;subst Ar)|(go_at_call 75;refine(c1C _ _ B C.length 0 d C A R _ (by exact a.out.below (g_ _ _).drew) O.out T (by decide) Ah.out (by omega) (by omega)).mono ?_;rintro x1 w5 ⟨rfl,H⟩))
 have u:B__ w w5:=N.out.drew.trans (H.mono (by have:=N.out.size;simpa using this));clear Ab k0 k1 Y Ae;by_cases hd:0≤d
 ·have c:=f.out;rw[n_ hd]at c;have y:=h__ c;clear c f;go_wp2_with fail;go_ret2;exact⟨by rw[←y.out];rfl,u⟩
 ·have c:=f.out;rw[f_ hd]at c;have y:=h__ c;clear c f;go_wp2_with fail;go_ret2;exact⟨by rw[←y.out];rfl,u⟩
theorem a4y(s:ByteArray)(w:World)(r:Int×Int)(u:s.size≤maxLen)(a:a8R s.data.toList=some r):
  Calls prog 43 #[.string s] w fun e w'=>e= .returned (.tuple #[i_ r.1,i_ r.2])∧B__ w w':=by
 have q:s.data.toList.length=s.size:=by simp
 unfold a8R at a;rw[q]at a;by_cases p:400<s.size
 ·rw[n_ p]at a;cases a;exact c0i s w u p
 rw[f_ p]at a;have h:s.size≤400:=by omega
 by_cases k:0≤placeOf s.data.toList
 ·rw[n_ k]at a;cases a;exact b6g s w h k
 rw[f_ k]at a;cases b:a7m (a0a s.data.toList) (atL s.data.toList 0)with
 |none=>rw[b]at a;cases a
 |some tw=>
 rw[b]at a;simp only at a;by_cases m:0≤tw
 ·rw[n_ m]at a;cases a;exact c0j s w tw h k b m
 rw[f_ m]at a;cases c:a2U (a0a s.data.toList)with
 |none=>rw[c]at a;cases a
 |some B=>
 rw[c]at a;simp only at a;cases g:a2S (a0a s.data.toList) ((a0a s.data.toList).length+1) B (a0a s.data.toList).length with
 |none=>rw[g]at a;cases a
 |some wk=>
 rw[g]at a;simp only at a;by_cases n:5000<wk
 ·rw[n_ n]at a;cases a;exact b8C s w tw B wk h k b m c g n
 rw[f_ n]at a;cases f:a5x (a0a s.data.toList)with
 |none=>rw[f]at a;cases a
 |some l=>
 cases j:a7E (a0a s.data.toList)with
 |none=>rw[f,j]at a;cases a
 |some R=>
 rw[f,j]at a;simp only at a;cases i:a2D (a0a s.data.toList) (atL s.data.toList 0) R ((a0a s.data.toList).length+1) B (a0a s.data.toList).length 0 with
 |none=>rw[i]at a;cases a
 |some d=>
 rw[i]at a;simp only at a;have o:=c0h s w tw d B wk l R h k b m c g n f j i;by_cases t:0≤d
 ·rw[n_ t]at a o;cases a;exact o
 ·rw[f_ t]at a o;cases a;exact o
end Go.Proofs.YtdgmoiflahoihaaGreatDoor
