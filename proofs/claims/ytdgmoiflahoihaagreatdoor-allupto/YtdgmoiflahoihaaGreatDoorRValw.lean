import Derived.Test.YtdgmoiflahoihaaGreatDoorPEvw

set_option linter.unusedSimpArgs false
set_option linter.unusedVariables false
set_option maxRecDepth 100000
set_option maxHeartbeats 8000000
namespace Go.Proofs.YtdgmoiflahoihaaGreatDoor
open Go.Proofs.Tryz
open Go.RowKit
theorem a71(l:List Pt)(names:List Vl)(P:Nat→Prop)(v:Value)(w:World)(hn:names.length=26)(hno:∀v∈names,a0S v)(hl:l.length≤1000)(hok:∀p∈l,a6K p)(hnm:∀p∈l,a2q p)(hv:a02 w P v l):
  Calls prog 135 #[v,.agg (a3h names)] w fun e w'=>e= .returned (vlV (a1O names l))∧Below w.heap.size w w':=by
 have hsz:=b4g hn
 obtain⟨ao,g,cap,rfl,hcells⟩:=a8D hv
 clear hv
 generalize hV:a1O names l=y
 have HV:Hid (a2F (a3s names l [])=y):=hV
 clear hV
 have HNO:Hid _:=hno
 have HC:Hid _:=hcells
 have HOK:Hid _:=hok
 have HNM:Hid _:=hnm
 clear hno hcells hok hnm
 have hB0:Below w.heap.size w (((w.alloc (.cells (a3h names) 102)).alloc (.cells #[.int .i64 0,.int .i64 0] 59)).alloc (.cells #[.slice none 0 0] 227)):=by
  refine y_ (y_ (y_ (g_ _ _) (a_ _) _) ?_ _) ?_ _<;>simp<;>omega
 have hN0:a30 (((w.alloc (.cells (a3h names) 102)).alloc (.cells #[.int .i64 0,.int .i64 0] 59)).alloc (.cells #[.slice none 0 0] 227)) w.heap.size names:=by
  refine((a30.new w names).keep (B:=w.heap.size+1) ?_ (by omega))
  refine y_ (y_ (g_ _ _) ?_ _) ?_ _<;>simp<;>omega
 go_enter func135,ntmps135
 go_upto_region 2 with fail
 generalize hW:(((w.alloc (.cells (a3h names) 102)).alloc (.cells #[.int .i64 0,.int .i64 0] 59)).alloc (.cells #[.slice none 0 0] 227))=W at*
 have hR0:a3N W (w.heap.size+1):=by
  rw[←hW]
  refine⟨?_,?_,fun o=> ?_⟩<;>simp[go_sem]
 have hP0:a1z W (w.heap.size+1+1) (fun _=>True) []:=by
  rw[←hW]
  exact⟨⟨.slice none 0 0,by simp[go_sem],E_ ..,fun _ _=>trivial⟩,fun o=>by simp[go_sem]⟩
 clear hW
 go_wp2_with fail
 go_loopw [11] (fun x w'=>∃(k:Nat) (st:List Vl),x= .int .i64 k∧k≤l.length∧st.length≤k∧Hid (a30 w' w.heap.size names)∧Hid (a3N w' (w.heap.size+1))∧Hid (a1z w' (w.heap.size+1+1) (fun _=>True) st)∧Hid (Below w.heap.size w w')∧Hid (∀v∈st,a0S v)∧Hid (a2F (a3s names (l.drop k) st)=y)) (fun x _=>l.length-(intOf x).toNat)
 case atStart=>exact⟨0,[],rfl,by omega,by simp,hN0,hR0,hP0,hB0,by show∀v∈ [],a0S v;simp,HV⟩
 case round=>
  obtain⟨k,st,rfl,hk,hst,HN,HR,HP,HB,HSO,HL⟩:=hrel
  clear hN0 hR0 hP0 hB0
  have hpl:w.heap.size+1+1<wr.heap.size:=HP.out.lt
  by_cases hlt:k<l.length
  ·have tk:decide ((k:Int)<(l.length:Int))=true:=by simp;omega
   obtain⟨e0,hg,c0,c1⟩:=HC.out k hlt
   have OKP:Hid (a6K l[k]):=HOK.out l[k] (P_ hlt)
   have NMP:Hid (a2q l[k]):=HNM.out l[k] (P_ hlt)
   rw[←HB.out.cell (p:=⟨g,k*2,none⟩) hg]at c0
   rw[←HB.out.cell (p:=⟨g,k*2+1,none⟩) hg]at c1
   have HST:Hid (a2F (a3s names (l.drop (k+1)) ((a1w names l[k] st).2++ [(a1w names l[k] st).1]))=y):=by
    have:=HL.out
    rw[u_ hlt]at this
    exact this
   generalize hp:l[k]=p at*
   clear hp
   subst e0
   have HTO:Hid _:=b8m (p:=p) HNO.out HSO.out NMP.out
   have hlen:=c3a names st p
   have hi59:(prog.info? 102).map (fun i=>i.size)=some (a3h names).size:=by rw[a8X,hsz]
   go_wp2_with (first|(refine a_l rfl 102 _ rfl w.heap.size rfl 102 (a3h names) (0,0) _ (by exact(HN.out.keep (B:=wr.heap.size) ((g_ _ _).alloc (a_ _) _) (by omega)).here) underlying102 rfl hi59 ?_)|(go_at_call 175;refine(b7N (w.heap.size+1+1) p names st _ _ (by exact HP.out.alloc _) (by omega) hn HNO.out HSO.out OKP.out).mono ?_;rintro e w1 ⟨rfl,hP1,hb1⟩))
   refine(b7M (w.heap.size+1+1) (a1w names p st).2 (a1w names p st).1 _ (by exact hP1.alloc _) (by omega)).mono ?_
   rintro e w2 ⟨rfl,hP2,hb2⟩
   have hA1:Below (w.heap.size+1+1) wr (wr.alloc (.cells #[.int .i64 p.op,.int .i64 p.num] 195)):=(g_ _ _).alloc (by omega) _
   have hs1:=hb1.size
   have hs1b:wr.heap.size<w1.heap.size:=by
    have e1:(wr.alloc (.cells #[.int .i64 p.op,.int .i64 p.num] 195)).heap.size=wr.heap.size+1:=by simp
    omega
   have hA2:Below (w.heap.size+1+1) wr w2:=((hA1.trans hb1).alloc (by omega) _).trans hb2
   have HN2:Hid (a30 w2 w.heap.size names):=HN.out.keep hA2 (by omega)
   have HR2:Hid (a3N w2 (w.heap.size+1)):=HR.out.of_block (hA2.block _ (by omega))
   have HB2:Hid (Below w.heap.size w w2):=HB.out.trans (hA2.mono (by omega))
   have HP2:Hid (a1z w2 (w.heap.size+1+1) (fun _=>True) ((a1w names p st).2++ [(a1w names p st).1])):=hP2
   have HSO2:Hid (∀v∈(a1w names p st).2++ [(a1w names p st).1],a0S v):=by
    intro v hv
    rcases G_.mp hv with h|h
    ·exact HTO.out.2 v h
    ·simp at h;rw[h];exact HTO.out.1
   clear hA1 hA2 hb1 hb2 hP1 hP2 c0 c1 HN HR HP HB hs1
   go_wp2_with fail
   go_roundw
   case rel=>exact⟨k+1,_,by go_num,by omega,by simp;omega,HN2,HR2,HP2,HB2,HSO2,HST⟩
   case measure=>simp[intOf];omega
  ·have tk:decide ((k:Int)<(l.length:Int))=false:=by simp;omega
   have HF:Hid (a2F st=y):=by
    have:=HL.out
    rw[C_ (by omega)]at this
    exact this
   go_wp2_with (first|(go_at_call 177;refine(a7Z (w.heap.size+1+1) st _ _ HP.out (by omega)).mono ?_;rw[HF.out];rintro e w1 ⟨rfl,hP1,hb1⟩;obtain⟨s0,s1,sf⟩:=HR.out.of_block (a5g hb1 (by omega) (by omega));have HB1:Hid (Below (w.heap.size+1+1) wr w1):=a9f hb1 hpl;clear hb1 hP1))
   refine m_ (v:=vlV y) (by simp[results,results135,go_sem,s0,s1,sf]) rfl ⟨rfl,?_⟩
   exact((HB.out.trans (HB1.out.mono (by omega))).setCell (by simp only;omega) _).setCell (by simp only;omega) _
structure Nt where
 kind:Int
 place:Nat
 label:Nat
 val:Vl
def a1J(x:Nt):List Value:= [.int .i64 x.kind,.int .i64 x.place,.int .i64 x.label,.int .i64 x.val.num,.int .i64 x.val.fault]
def a0B(l:List Nt):List Value:=l.flatMap a1J
theorem b8X(l:List Nt):(a0B l).length=l.length*5:=by
 induction l with
 |nil=>rfl
 |cons p r ih=>simp only[a0B,List.flatMap_cons,x_]at ih⊢;rw[ih];simp[a1J];omega
theorem a7Y(l r:List Nt):a0B (l++r)=a0B l++a0B r:=by simp[a0B]
abbrev SR:=List Vl×List Nt
def a7L(f:SR→SR):Nat→SR→SR
 |0,s=>s
 |n+1,s=>a7L f n (f s)
def doT{α:Type}(a:SR→List α→SR)(s:SR)(q:a0C×List α×List α):SR:=
 if q.1.kind=0 then(s.1.set q.1.name.toNat (a1O s.1 q.1.parts),s.2)
 else if q.1.kind=1 then(s.1.set q.1.name.toNat (a1O s.1 q.1.parts),s.2++ [⟨1,q.1.place,q.1.label,a1O s.1 q.1.parts⟩])
 else if q.1.kind=2 then(s.1,s.2++ [⟨0,q.1.place,q.1.label,a1O s.1 q.1.parts⟩])
 else if q.1.kind=3 then
  if(a1O s.1 q.1.parts).fault≠0 then s else if(a1O s.1 q.1.parts).num≠0 then a s q.2.1 else a s q.2.2
 else a7L (fun s=>a s q.2.1) q.1.count.toNat s
def doL{α:Type}(a:SR→List α→SR):SR→List (a0C×List α×List α)→SR
 |s,[]=>s
 |s,q::r=>doL a (doT a s q) r
def doF(n:Nat):SR→List (RT n)→SR:=
 match n with
 |0=>fun s _=>s
 |n+1=>fun s l=>doL (doF n) s l
def a05(n:Nat):List (RT n)→Prop:=
 match n with
 |0=>fun _=>True
 |n+1=>fun l=>∀q∈(l:List (a0C×List (RT n)×List (RT n))),(∀p∈q.1.parts,a2q p)∧a05 n q.2.1∧a05 n q.2.2
structure a1h(s:SR):Prop where
 len:s.1.length=26
 ok:∀v∈s.1,a0S v
theorem a1h.set{s:SR}(h:a1h s){v:Vl}(b:a0S v)(i:Nat)(l:List Nt):a1h (s.1.set i v,l):=by
 refine⟨by simp[h.len],fun x c=> ?_⟩;rcases List.mem_or_eq_of_mem_set c with a|a
 ·exact h.ok x a
 ·rw[a];exact b
def b3c{α:Type}(nums:List α→Prop)(wk:List α→Nat)(a:SR→List α→SR):Prop:=
 ∀s l,nums l→a1h s→a1h (a s l)∧(a s l).2.length≤s.2.length+wk l
theorem b9O{f:SR→SR}{k:Nat}(e:∀s,a1h s→a1h (f s)∧(f s).2.length≤s.2.length+k):∀(n:Nat) (s:SR),a1h s→a1h (a7L f n s)∧(a7L f n s).2.length≤s.2.length+n*k
 |0,s,h=>⟨h,by simp[a7L]⟩
 |n+1,s,h=>by
  obtain⟨a,b⟩:=e s h;obtain⟨c,d⟩:=b9O e n (f s) a;refine⟨c,?_⟩;show(a7L f n (f s)).2.length≤_;rw[b_d];omega
theorem c1I{α:Type}{nums:List α→Prop}{wk:List α→Nat}{c:SR→List α→SR}(e:b3c nums wk c)(s:SR)(q:a0C×List α×List α)(l:∀p∈q.1.parts,a2q p)(g:nums q.2.1)(j:nums q.2.2)(n:0≤q.1.kind∧q.1.kind≤4)(h:a1h s):
  a1h (doT c s q)∧(doT c s q).2.length≤s.2.length+a1y wk q:=by
 have i:=a56 h.ok l;have d:q.1.kind≠4→a1y wk q=1+q.1.parts.length+wk q.2.1+wk q.2.2:=fun h=>by unfold a1y;rw[f_ h]
 unfold doT
 split
 ·rename_i k;rw[d (by omega)];exact⟨h.set i _ _,by simp only;omega⟩
 split
 ·rename_i k;rw[d (by omega)];exact⟨h.set i _ _,by simp;omega⟩
 split
 ·rename_i k;rw[d (by omega)];exact⟨⟨h.len,h.ok⟩,by simp;omega⟩
 split
 ·rename_i k;rw[d (by omega)]
  split
  ·exact⟨h,by omega⟩
  split
  ·obtain⟨a,b⟩:=e s _ g h;exact⟨a,by omega⟩
  ·obtain⟨a,b⟩:=e s _ j h;exact⟨a,by omega⟩
 ·obtain⟨a,b⟩:=b9O (f:=fun s=>c s q.2.1) (k:=wk q.2.1) (fun s m=>e s _ g m) q.1.count.toNat s h;refine⟨a,?_⟩;unfold a1y;rw[n_ (by omega),Nat.mul_add];omega
theorem c1G{α:Type}{nums:List α→Prop}{wk:List α→Nat}{e:SR→List α→SR}(f:b3c nums wk e):∀(l:List (a0C×List α×List α)) (s:SR),(∀q∈l,(∀p∈q.1.parts,a2q p)∧nums q.2.1∧nums q.2.2∧0≤q.1.kind∧q.1.kind≤4)→a1h s→
  a1h (doL e s l)∧(doL e s l).2.length≤s.2.length+a48 wk l
 | [],s,_,h=>⟨h,by simp[doL]⟩
 |q::r,s,hl,h=>by
  obtain⟨g,i,j,k⟩:=hl q (by simp);obtain⟨a,b⟩:=c1I f s q g i j k h;obtain⟨c,d⟩:=c1G f r (doT e s q) (fun x m=>hl x (by simp[m])) a;refine⟨c,?_⟩;show(doL e (doT e s q) r).2.length≤_;rw[a6p];omega
theorem b3l:∀(n:Nat) (l:List (RT n)) (s:SR),a05 n l→a0v n l→a1h s→a1h (doF n s l)∧(doF n s l).2.length≤s.2.length+a0z n l
 |0,l,s,_,_,h=>⟨h,by simp[doF]⟩
 |n+1,l,s,hn,ht,h=>by
  have c:b3c (fun l=>a05 n l∧a0v n l) (a0z n) (doF n):=fun s l b d=>b3l n l s b.1 b.2 d
  exact c1G c l s (fun q a=>⟨(hn q a).1,⟨(hn q a).2.1,(ht.2 q a).2.1⟩,⟨(hn q a).2.2,(ht.2 q a).2.2⟩,(ht.2 q a).1.kind⟩) h
theorem b0w:(prog.info? 61).map (fun i=>(i.zero,i.size,i.bytes))=some (some (.agg #[i_ 0,i_ 0,i_ 0,i_ 0,i_ 0]),5,40):=by kernel_rfl
structure a0E(w:World)(b:Nat)(S:Nat→Prop)(s:SR):Prop where
 cell:∀k,k<26→w.cell? ⟨b,k*2,none⟩=some (.int .i64 (s.1.getD k vl0).num)∧w.cell? ⟨b,k*2+1,none⟩=some (.int .i64 (s.1.getD k vl0).fault)
 row:∃v,w.cell? ⟨b,52,none⟩=some v∧w.ownsRow (b+1) 61 5 v s.2.length (a0B s.2)∧∀k,v.ownBlock=some k→S k
 fz:∀o,w.frozen? ⟨b,o,none⟩=false
theorem a0E.lt{w:World}{b:Nat}{S:Nat→Prop}{s:SR}(h:a0E w b S s):b<w.heap.size:=r_ w _ (h.cell 0 (by omega)).1
theorem a0E.weak{w:World}{b:Nat}{S R:Nat→Prop}{s:SR}(h:a0E w b S s)(i:∀k,S k→b<k→k<w.heap.size→R k):a0E w b R s:=by
 obtain⟨g,⟨v,c,d,f⟩,e⟩:=h;exact⟨g,⟨v,c,d,fun k a=>i k (f k a) (d.lt k a).1 (d.lt k a).2⟩,e⟩
theorem a0E.keep{w w':World}{b B:Nat}{S:Nat→Prop}{s:SR}(h:a0E w b S s)(a:Below B w w')(g:w.heap.size≤B):a0E w' b S s:=by
 have j:=h.lt;obtain⟨d,⟨v,c,l,i⟩,f⟩:=h;exact⟨fun k e=>⟨(a.cell (p:=(a__ b (k*2))) (by simp only;omega)).trans (d k e).1,(a.cell (p:=(a__ b (k*2+1))) (by simp only;omega)).trans (d k e).2⟩,⟨v,(a.cell (p:=(a__ b 52)) (by simp only;omega)).trans c,a1C l a g,i⟩,fun o=>(a.frozen (p:=(a__ b o)) (by simp only;omega)).trans (f o)⟩
theorem a0E.drew{w:World}{b:Nat}{S:Nat→Prop}{s:SR}(h:a0E w b S s):a0E w.drew b S s:=h.keep (g_ w.heap.size w).drew (a_ _)
theorem a0E.range{w:World}{b:Nat}{S:Nat→Prop}{s:SR}(h:a0E w b S s)(l:s.1.length=26):w.rangeAt b 0 (a0N s.1):=by
 intro j v f;have m:j<52:=by
  have:=(k_.mp f).1;rw[a3j,l]at this;omega
 obtain⟨g,i⟩:=a6o s.1 (j/2) (by omega);obtain⟨c,d⟩:=h.cell (j/2) (by omega);have e:s.1.getD (j/2) vl0=s.1[j/2]'(by omega):=by rw[t_,s_ (by omega)];rfl
 rw[e]at c d;rw[a_m];rcases Nat.mod_two_eq_zero_or_one j with k|k
 ·have a:j=j/2*2:=by omega
  rw[←a]at g c;rw[c,←g,f]
 ·have a:j=j/2*2+1:=by omega
  rw[←a]at i d;rw[d,←i,f]
theorem a0E.set{w:World}{b:Nat}{S:Nat→Prop}{s:SR}(h:a0E w b S s)(hl:s.1.length=26)(i:Nat)(hi:i<26)(x:Vl):a0E ((w.setCell ⟨b,i*2,none⟩ (.int .i64 x.num)).setCell ⟨b,i*2+1,none⟩ (.int .i64 x.fault)) b S (s.1.set i x,s.2):=by
 obtain⟨hc,⟨v,c,ho,hS⟩,fz⟩:=h
 refine⟨fun k hk=> ?_,⟨v,?_,?_,hS⟩,fun o=>by simp[go_sem,fz]⟩
 ·obtain⟨e0,e1⟩:=hc k hk
  obtain⟨f0,f1⟩:=hc i hi
  by_cases hik:i=k
  ·subst hik
   have e:(s.1.set i x).getD i vl0=x:=by rw[List.getD_eq_getElem?_getD,List.getElem?_set_self (by omega)];rfl
   rw[e]
   constructor<;>simp[go_sem,f0,f1]
  ·have e:(s.1.set i x).getD k vl0=s.1.getD k vl0:=by rw[List.getD_eq_getElem?_getD,List.getElem?_set_ne hik,List.getD_eq_getElem?_getD]
   rw[e]
   have n1:¬i*2=k*2:=by omega
   have n2:¬i*2+1=k*2:=by omega
   have n3:¬i*2=k*2+1:=by omega
   have n4:¬i*2+1=k*2+1:=by omega
   constructor
   ·simp[go_sem,e0,n1,n2]
   ·simp[go_sem,e1,n3,n4,hik]
 ·have n1:¬i*2=52:=by omega
  have n2:¬i*2+1=52:=by omega
  simp[go_sem,c,n1,n2]
 ·exact ownsRow_setCell_below (ownsRow_setCell_below ho (a:=⟨b,i*2,none⟩) (by simp) _) (a:=⟨b,i*2+1,none⟩) (by simp) _
theorem a77(w:World)(x:Nt)(t:TypeId):∀j u,(a1J x)[j]? =some u→(w.alloc (.cells #[i_ x.kind,i_ x.place,i_ x.label,i_ x.val.num,i_ x.val.fault] t)).drew.cell? (((a__ w.heap.size 0):Addr).add j)=some u:=by
 intro j u h
 match j,h with
 |0,h=>simp[a1J]at h;subst h;simp[go_sem,Addr.add]
 |1,h=>simp[a1J]at h;subst h;simp[go_sem,Addr.add]
 |2,h=>simp[a1J]at h;subst h;simp[go_sem,Addr.add]
 |3,h=>simp[a1J]at h;subst h;simp[go_sem,Addr.add]
 |4,h=>simp[a1J]at h;subst h;simp[go_sem,Addr.add]
 |j+5,h=>simp[a1J]at h
structure Onto(b:Nat)(S:Nat→Prop)(w w':World):Prop where
 os:w'.os=w.os
 tape:w'.tape=w.tape
 output:w'.output=w.output
 size:w.heap.size≤w'.heap.size
 block:∀k,k<w.heap.size→k≠b→¬S k→w'.heap[k]? =w.heap[k]?
theorem Onto.of_below{b:Nat}{S:Nat→Prop}{w w':World}(h:B__ w w'):Onto b S w w':=⟨h.os,h.tape,h.output,h.size,fun k a _ _=>h.block k a⟩
theorem Onto.pre{b:Nat}{S:Nat→Prop}{w W w':World}(h:B__ w W)(k:Onto b S W w'):Onto b S w w':=
 ⟨k.os.trans h.os,k.tape.trans h.tape,k.output.trans h.output,K_ h.size k.size,fun i a c d=>(k.block i (Q_ a h.size) c d).trans (h.block i a)⟩
theorem Onto.trans{b:Nat}{S:Nat→Prop}{w w1 f:World}(h:Onto b S w w1)(k:Onto b (fun i=>S i∨w.heap.size≤i) w1 f):Onto b S w f:=
 ⟨k.os.trans h.os,k.tape.trans h.tape,k.output.trans h.output,K_ h.size k.size,fun i c a d=>(k.block i (Q_ c h.size) a (fun e=>by rcases e with e|e;exact d e;omega)).trans (h.block i c a d)⟩
theorem Onto.below{b:Nat}{S:Nat→Prop}{w w':World}(h:Onto b S w w')(c:b<w.heap.size)(a:∀k,S k→b<k):Below b w w':=
 ⟨h.os,h.tape,h.output,h.size,fun k d=>h.block k (by omega) (by omega) (fun e=>by have:=a k e;omega)⟩
theorem Onto.setCell{b:Nat}{S:Nat→Prop}{w w':World}(h:Onto b S w w')(o:Nat)(u:Value):Onto b S w (w'.setCell (a__ b o) u):=
 ⟨h.os,h.tape,h.output,by simpa using h.size,fun k c a d=>(o_ _ _ _ _ a).trans (h.block k c a d)⟩
theorem Onto.drew{b:Nat}{S:Nat→Prop}{w w':World}(h:Onto b S w w'):Onto b S w w'.drew:=⟨h.os,h.tape,h.output,h.size,h.block⟩
structure a0y(b:Nat)(S:Nat→Prop)(w w':World)(s:SR):Prop where
 state:a0E w' b (fun k=>S k∨w.heap.size≤k) s
 onto:Onto b S w w'
theorem a0y.trans{b:Nat}{S:Nat→Prop}{w w1 c:World}{s t:SR}(h:a0y b S w w1 s)(k:a0y b (fun i=>S i∨w.heap.size≤i) w1 c t):a0y b S w c t:=
 ⟨k.state.weak (fun i a _ _=>by rcases a with a|a;exact a;exact .inr (K_ h.onto.size a)),h.onto.trans k.onto⟩
theorem a0y.pre{b:Nat}{S:Nat→Prop}{w W w':World}{s:SR}(h:B__ w W)(k:a0y b S W w' s):a0y b S w w' s:=
 ⟨k.state.weak (fun i a _ _=>by rcases a with a|a;exact .inl a;exact .inr (K_ h.size a)),k.onto.pre h⟩
theorem a0y.still{b:Nat}{S:Nat→Prop}{w w':World}{s:SR}(h:a0E w' b S s)(k:B__ w w'):a0y b S w w' s:=
 ⟨h.weak (fun i a _ _=> .inl a),Onto.of_below k⟩
theorem a4S{P:Program}{r:Array Oper}{o:Oper}{a:Act}{w:World}{K:Act→World→Prop}{Q:Exit→Act→World→Prop}{E:Prop}
  (T:o.guard=none) (s x:Operand) (t:TypeId) (C:o.op=Op.call { callee:=Callee.builtin Builtin.append,args:= #[s,x],argTypes:= #[t,t] })
  (h:Nat) (e:TypeId) (i:TypeInfo) (z:Value) (b f:Nat) (H:P.underlying t=some (.slice e)) (I:P.info? e=some i) (J:i.zero=some z) (L:i.size=b) (M:i.bytes=f) (N:z.cells.size=b) (O:0<b)
  (v:Value) (n:Nat) (D:List Value) (X:a.eval s=v) (p:w.ownsRow h e b v n D)
  (A:Addr) (m c:Nat) (d:List Value) (Z:a.eval x= .slice (some A) m c) (V:d.length=m*b) (S:∀j u,d[j]? =some u→w.cell? (A.add j)=some u) (B:∀u∈d,u.oneCell'=true)
  (F:n+m≤maxLen) (G:(n+m)*f≤140737488355328) (k:h≤w.heap.size) (U:0<m)
  (R:∀l y,y.ownsRow h e b l (n+m) (D++d)→w.grownBy y v.ownBlock→(l.ownBlock=v.ownBlock∨∃g,l.ownBlock=some g∧w.heap.size≤g)→K (a.put o.dst l) y):
  if Region.wanted o (yielded r a.tmps)=true then Oper.wp P o a w K Q else E:=by
 have Y:Region.wanted o (yielded r a.tmps)=true:=by simp[Region.wanted,T]
 rw[n_ Y];obtain⟨l,y,q,r1,r2,r3⟩:=a83 (P:=P) w h t o.type e i z b f H I J L M N O v n D p A m c d V S B F G k U;unfold Oper.wp;simp[execOp,C,resolve,invoke,builtin,X,Z,q,Result.andThen];exact R l y r1 r2 r3
theorem a6A{w W c:World}{b:Nat}{S:Nat→Prop}{s:SR}{v:Value}(h:a0E w b S s)(p:w.cell? (a__ b 52)=some v)(m:w.ownsRow (b+1) 61 5 v s.2.length (a0B s.2))(i:∀k,v.ownBlock=some k→S k)(d:B__ w W)(a:W.grownBy c v.ownBlock):
  c.heap[b]? =w.heap[b]? ∧Onto b S w c:=by
 have l:=h.lt;have g:some b≠v.ownBlock:=by
  intro e;have:=(m.lt b e.symm).1;omega
 have o:=d.size;have f:c.heap[b]? =w.heap[b]? :=(a.block b (by omega) g).trans (d.block b (by omega));refine⟨f,Onto.pre d ?_⟩;exact⟨a.os,a.tape,a.output,a.size,fun k j _ n=>a.block k j (fun e=>n (i k e.symm))⟩
theorem a7l{w W i:World}{b:Nat}{S:Nat→Prop}{s:SR}{x:Nt}{v d:Value}(h:a0E w b S s)(r:∀k,v.ownBlock=some k→S k)(B:w.heap.size≤W.heap.size)(m:i.heap[b]? =w.heap[b]?)(y:i.ownsRow (b+1) 61 5 d (s.2.length+1) (a0B s.2++a1J x))(j:d.ownBlock=v.ownBlock∨∃g,d.ownBlock=some g∧W.heap.size≤g):a0E (i.setCell (a__ b 52) d) b (fun k=>S k∨w.heap.size≤k) (s.1,s.2++ [x]):=by
 have c:∀o,i.cell? (a__ b o)=w.cell? (a__ b o):=fun o=>e_ (a:=(a__ b o)) m
 have f:∀o,i.frozen? (a__ b o)=w.frozen? (a__ b o):=fun o=>I_ (a:=(a__ b o)) m
 obtain⟨t,⟨D,l,_⟩,q⟩:=h;refine⟨fun k e=> ?_,⟨d,by simp[go_sem,c,l],?_,fun k e=> ?_⟩,fun o=>by simp[go_sem,f,q]⟩
 ·obtain⟨n,p⟩:=t k e;have z:¬52=k*2:=by omega
  have A:¬52=k*2+1:=by omega
  constructor
  ·simp[go_sem,c,n,z]
  ·simp[go_sem,c,p,A]
 ·have:=a_d y (a:=(a__ b 52)) (by simp) d;rw[a7Y];simpa[a0B]using this
 ·rcases j with j|⟨g,u,C⟩
  ·exact .inl (r k (by rw[←j];exact e))
  ·rw[u]at e;cases e;exact .inr (by omega)
theorem b5z(b:Nat)(s:SR)(j:Int)(c:a0C)(U R T:Value)(x:Vl)(w:World)(S:Nat→Prop)(h:a0E w b S s)(hl:s.2.length≤100000):
  Calls prog 136 #[.pointer (some (a__ b 0)),i_ j,.agg #[i_ c.kind,i_ c.place,i_ c.name,i_ c.label,i_ c.count,U,R,T],vlV x] w fun e w'=>e= .returned (.tuple #[])∧a0y b S w w' (s.1,s.2++ [⟨j,c.place,c.label,x⟩]):=by
 have z:=h.lt;have M:Hid (a0E w b S s):=h;obtain⟨Z,⟨v,H,O,y⟩,N⟩:=h;have t:Hid (∀k,v.ownBlock=some k→S k):=y;clear y;obtain⟨iV,F,I,G,D⟩:=a1v b0w;have L:Hid (w.ownsRow (b+1) 61 5 v s.2.length (a0B s.2)):=O;clear Z O;go_enter func136,ntmps136;go_upto_region 2 with fail;generalize l:(((w.alloc (.cells #[i_ c.kind,i_ c.place,i_ c.name,i_ c.label,i_ c.count,U,R,T] 149)).alloc (.cells #[i_ x.num,i_ x.fault] 59)).alloc (.cells #[i_ j,i_ c.place,i_ c.label,i_ x.num,i_ x.fault] 61))=W;have u:B__ w W:=by
  rw[←l];refine y_ (y_ (y_ (g_ _ _) (a_ _) _) ?_ _) ?_ _<;>simp<;>omega
 have C:W.heap.size=w.heap.size+1+1+1:=by rw[←l];simp
 have m0:W.cell? ⟨w.heap.size+1+1,0,none⟩=some (i_ j):=by rw[←l];simp[go_sem]
 have m1:W.cell? ⟨w.heap.size+1+1,1,none⟩=some (i_ c.place):=by rw[←l];simp[go_sem]
 have m2:W.cell? ⟨w.heap.size+1+1,2,none⟩=some (i_ c.label):=by rw[←l];simp[go_sem]
 have m3:W.cell? ⟨w.heap.size+1+1,3,none⟩=some (i_ x.num):=by rw[←l];simp[go_sem]
 have m4:W.cell? ⟨w.heap.size+1+1,4,none⟩=some (i_ x.fault):=by rw[←l];simp[go_sem]
 have Ae:W.cell? (a__ b 52)=some v:=(u.cell (p:=(a__ b 52)) z).trans H;have Y:∀o,W.frozen? (a__ b o)=false:=fun o=>(u.frozen (p:=(a__ b o)) z).trans (N o)
 have B:Hid (W.ownsRow (b+1) 61 5 v s.2.length (a0B s.2)):=a1C L.out u (a_ _);have Aa:¬b=W.heap.size:=by omega
 have Ac:b<W.heap.size:=by omega
 have Ad:w.heap.size+1+1<W.heap.size:=by omega
 have Ab:¬w.heap.size+1+1=W.heap.size:=by omega
 have J:Hid (B__ w W):=u;clear l u C
 go_region_law (refine a4S rfl (.tmp 20) (.tmp 22) 51 rfl (b+1) 61 iV (.agg #[i_ 0,i_ 0,i_ 0,i_ 0,i_ 0]) 5 40 underlying51 F I G D rfl (by decide) v s.2.length (a0B s.2) (by simp[Act.eval,Act.put]) (by exact(B.out.alloc _).drew) (a__ W.heap.size 0) 1 1 (a1J ⟨j,c.place,c.label,x⟩) (by simp[Act.eval,Act.put]) rfl (by exact a77 W ⟨j,c.place,c.label,x⟩ 61) (by intro q P;simp[a1J]at P;rcases P with rfl|rfl|rfl|rfl|rfl<;>rfl) (by unfold maxLen;omega) (by omega) (by simp;omega) (by decide) ?_;intro v' V m r E;have A:=a6A M.out H L.out t.out (W:=(W.alloc (.cells #[i_ j,i_ c.place,i_ c.label,i_ x.num,i_ x.fault] 61)).drew) ((J.out.alloc (by omega) _).drew) r;have q0:V.cell? (a__ b 52)=some v:=(e_ (a:=(a__ b 52)) A.1).trans H;have q1:∀o,V.frozen? (a__ b o)=false:=(fun o=>(I_ (a:=(a__ b o)) A.1).trans (N o));obtain⟨g,X,rfl⟩:=Joins.ownsRow_form m (by omega))
 all_goals go_wp2_with fail
 all_goals go_end0
 all_goals exact⟨rfl,a7l M.out t.out (by have:=J.out.size;simp;omega) A.1 m E,A.2.setCell _ _⟩
def a58(n:Nat):Prop:=∀(b:Nat) (S:Nat→Prop) (s:SR) (l:List (RT n)) (P:Nat→Prop) (v:Value) (w:World),a0v n l→a05 n l→a1h s→s.2.length+a0z n l≤100000→a0E w b S s→a0l n w P v l→(∀k,P k→k<b)→(∀k,S k→b<k)→
 Calls prog 68 #[.pointer (some ⟨b,0,none⟩),v] w fun e a=>e= .returned (.tuple #[])∧a0y b S w a (doF n s l)
theorem a2V{n b:Nat}{w w':World}{P:Nat→Prop}{v:Value}{l:List (RT n)}(h:a0l n w P v l)(c:∀k,P k→k<b)(d:Below b w w'):a0l n w' P v l:=
 a1A (fun k a e=>⟨a,d.block k (c k a)⟩) n v l h
theorem b1G{b:Nat}{w w':World}{P:Nat→Prop}{v:Value}{l:List Pt}(h:a02 w P v l)(c:∀k,P k→k<b)(d:Below b w w'):a02 w' P v l:=
 a4x h (fun k a e=>⟨a,d.block k (c k a)⟩)
theorem b0L{W a:World}{t:TypeId}(h:Below (W.alloc (.cells #[i_ 0,i_ 0] t)).drew.heap.size (W.alloc (.cells #[i_ 0,i_ 0] t)).drew a):
  a.cell? (a__ W.heap.size 0)=some (i_ 0)∧a.cell? (a__ W.heap.size 1)=some (i_ 0)∧(∀o,a.frozen? (a__ W.heap.size o)=false)∧B__ W a:=
 a0G (w:=W) (t:=t) (w1:=a) ⟨h.os,h.tape,h.output,h.size,h.block⟩
theorem a2i{W a:World}(h:Below W.drew.heap.size W.drew a):B__ W a:=⟨h.os,h.tape,h.output,h.size,h.block⟩
theorem b1Z{W V:World}{b g:Nat}{cs:List Value}{u:Value}(e:W.rangeAt b 0 cs)(f:W.cell? (a__ g 5)=some u)(c:V.heap[b]? =W.heap[b]?)(d:V.heap[g]? =W.heap[g]?):V.rangeAt b 0 cs∧V.cell? (a__ g 5)=some u:=
 ⟨fun j v h=>(e_ (a:=(a__ b (0+j))) c).trans (e j v h),(e_ (a:=(a__ g 5)) d).trans f⟩
theorem b8E(n:Nat)(ih:a58 n)(b:Nat)(S:Nat→Prop)(s:SR)(q:a0C×List (RT n)×List (RT n))(P:Nat→Prop)(ve v1 v2:Value)(w:World)(Z:q.1.kind=3)(hc:a1j q.1)(h1:a0v n q.2.1)(h2:a0v n q.2.2)(hp:∀p∈q.1.parts,a2q p)(m1:a05 n q.2.1)(m2:a05 n q.2.2)(hs:a1h s)
  (hw:s.2.length+a1y (a0z n) q≤100000) (hS:a0E w b S s) (E:a02 w P ve q.1.parts) (B:a0l n w P v1 q.2.1) (C:a0l n w P v2 q.2.2) (hP:∀k,P k→k<b) (Y:∀k,S k→b<k):
  Calls prog 137 #[.pointer (some (a__ b 0)),.agg #[i_ q.1.kind,i_ q.1.place,i_ q.1.name,i_ q.1.label,i_ q.1.count,ve,v1,v2]] w fun e w'=>e= .returned (.tuple #[])∧a0y b S w w' (doT (doF n) s q):=by
 obtain⟨c,F,G⟩:=q;simp only at*;have Al:=hS.lt;have An:a1y (a0z n) (c,F,G)=1+c.parts.length+a0z n F+a0z n G:=by unfold a1y;rw[f_ (by simp only;omega)]
 have hD:doT (doF n) s (c,F,G)=if(a1O s.1 c.parts).fault≠0 then s else if(a1O s.1 c.parts).num≠0 then doF n s F else doF n s G:=by unfold doT;simp[Z]
 rw[hD];obtain⟨ae,ne,ce,Ad⟩:∃aa nn cc,ve= .slice aa nn cc:=by
  rcases Joins.ownsRow_forms E.1 with⟨rfl,_⟩|⟨g,Ak,rfl⟩<;>exact⟨_,_,_,rfl⟩
 subst Ad;obtain⟨a1,n1,c1,Ab⟩:=a0h B;obtain⟨a2,n2,c2,Ac⟩:=a0h C;have Ag:v1= .slice a1 n1 c1∧v2= .slice a2 n2 c2:=⟨Ab,Ac⟩
 clear Ab Ac;obtain⟨rfl,rfl⟩:=Ag;generalize A:w.alloc (.cells #[i_ c.kind,i_ c.place,i_ c.name,i_ c.label,i_ c.count,.slice ae ne ce,.slice a1 n1 c1,.slice a2 n2 c2] 149)=W;have Af:=h__ A;have m:B__ w W:=by rw[←A];exact(g_ _ _).alloc (a_ _) _
 have z:a0E W b S s:=hS.keep m (a_ _);have Ah:W.heap.size=w.heap.size+1:=by rw[←A];simp
 have q5:W.cell? (a__ w.heap.size 5)=some (.slice ae ne ce):=by rw[←A];simp[go_sem]
 have q6:W.cell? (a__ w.heap.size 6)=some (.slice a1 n1 c1):=by rw[←A];simp[go_sem]
 have q7:W.cell? (a__ w.heap.size 7)=some (.slice a2 n2 c2):=by rw[←A];simp[go_sem]
 have X:Hid _:=a0U E m;have M:Hid _:=a0g B m;have O:Hid _:=a0g C m;have Aa:=z.range hs.len;have U:=h__ z;have J:=h__ m;have HS:=h__ hs;have HC:=h__ hc;have H1:=h__ h1;have H2:=h__ h2;have M1:=h__ m1;have M2:=h__ m2;have HP:=h__ hP;have T:=h__ Y;have Ae:=h__ hp;have IH:=h__ ih;have hu:=underlying102;have hi:(prog.info? 102).map (fun i=>i.size)=some (a0N s.1).length:=by rw[a8X,a3j,hs.len]
 have d:w.heap.size<W.heap.size:=by omega
 have h:b<W.heap.size:=by omega
 have Am:¬w.heap.size=W.heap.size:=by omega
 have Aj:¬b=W.heap.size:=by omega
 have j:Hid (∀V:World,V.heap[b]? =W.heap[b]? →V.heap[w.heap.size]? =W.heap[w.heap.size]? →V.rangeAt b 0 (a0N s.1)∧V.cell? (a__ w.heap.size 5)=some (.slice ae ne ce)):=fun V e1 e2=>b1Z Aa q5 e1 e2
 generalize hx:a1O s.1 c.parts=x at*;have HX:=h__ hx;generalize o:(if x.fault≠0 then s else if x.num≠0 then doF n s F else doF n s G)=H at*;have f:=h__ o;clear E B C hS hs hc h1 h2 hp m1 m2 hP Y ih z m A hx hD o Ah Z;go_enter func137,ntmps137;go_upto_region 1 with fail;rw[Af.out]
 go_cut [4]from 4 to 27 (fun y wx=>∃g4,y= .pointer (some (a__ g4 0))∧B__ W wx∧wx.cell? (a__ g4 0)=some (i_ x.num)∧wx.cell? (a__ g4 1)=some (i_ x.fault))
 case first=>
  go_region_held3 (fun w'=>w'.rangeAt b 0 (a0N s.1)∧w'.cell? (a__ w.heap.size 5)=some (.slice ae ne ce)) (first|exact j.out _ rfl rfl|exact j.out _ (a.block _ h) (a.block _ d)|exact j.out _ ((q_ _ _ _ (Q_ h a.size)).trans (a.block _ h)) ((q_ _ _ _ (Q_ d a.size)).trans (a.block _ d))|exact j.out _ (q_ _ _ _ h) (q_ _ _ _ d)|exact j.out _ ((a.block _ (by simp;omega)).trans (q_ _ _ _ h)) ((a.block _ (by simp;omega)).trans (q_ _ _ _ d))|exact j.out _ (((o_ _ _ _ _ (by simp only;omega)).trans (o_ _ _ _ _ (by simp only;omega))).trans ((a.block _ (by simp;omega)).trans (q_ _ _ _ h))) (((o_ _ _ _ _ (by simp only;omega)).trans (o_ _ _ _ _ (by simp only;omega))).trans ((a.block _ (by simp;omega)).trans (q_ _ _ _ d)))) ((go_at_call 135;refine(a71 c.parts s.1 P _ _ HS.out.len HS.out.ok HC.out.few HC.out.parts Ae.out (a0U X.out (by first|exact(g_ _ _).drew|exact((g_ _ _).alloc (a_ _) _).drew))).mono ?_;rintro x1 w5 ⟨rfl,a⟩;rw[HX.out];(first|(have zz:=b0L (W:=W) (t:=59) a;obtain⟨z0,z1,zf,zb⟩:=zz)|skip)))
  all_goals (go_wp2_with fail;go_meet)
  ·refine⟨w5.heap.size,rfl,?_,by simp[go_sem],by simp[go_sem]⟩;exact(a2i a).alloc (a2i a).size _
  ·exact⟨W.heap.size,rfl,(zb.setCell (a_ _) _).setCell (a_ _) _,by simp[go_sem,z0,z1],by simp[go_sem,z0,z1]⟩
 case rest=>
  obtain⟨g4,rfl,l,y0,y1⟩:=hcut;have u:Hid _:=U.out.keep l (a_ _);have N:Hid _:=a0g M.out l;have R:Hid _:=a0g O.out l;have r:Hid _:=J.out.trans (l.mono (by omega));rw[←l.cell (p:=(a__ w.heap.size 6)) d]at q6;rw[←l.cell (p:=(a__ w.heap.size 7)) d]at q7;clear l U M O J X q5 Aa hu hi j;by_cases I:x.fault=0
  ·have tf:(x.fault !=0)=false:=by simp[I]
   rw[I]at y1;by_cases n0:x.num=0
   ·have L:Hid (doF n s G=H):=by have:=f.out;show _=_;rw[←this];simp[I,n0]
    rw[n0]at y0;clear f;go_wp2_with fail;refine(IH.out b S s G P _ _ H2.out M2.out HS.out (by omega) u.out R.out HP.out T.out).mono ?_;rw[L.out];rintro e w6 ⟨rfl,D⟩;go_wp2_with fail;go_end0;exact⟨rfl,D.pre r.out⟩
   ·have L:Hid (doF n s F=H):=by have:=f.out;show _=_;rw[←this];simp[I,n0]
    have tn:(x.num !=0)=true:=by simpa using n0
    clear f;go_wp2_with fail;refine(IH.out b S s F P _ _ H1.out M1.out HS.out (by omega) u.out N.out HP.out T.out).mono ?_;rw[L.out];rintro e w6 ⟨rfl,D⟩;go_wp2_with fail;go_end0;exact⟨rfl,D.pre r.out⟩
  ·have L:Hid (s=H):=by have:=f.out;show _=_;rw[←this];simp[I]
   have tf:(x.fault !=0)=true:=by simpa using I
   clear f;go_wp2_with fail;have Ai:=L.out;subst Ai;exact m_ (v:= .tuple #[]) (by simp[results,results137,go_sem]) rfl ⟨rfl,a0y.still u.out r.out⟩
theorem Onto.more{b:Nat}{S R:Nat→Prop}{w w':World}(h:Onto b S w w')(f:∀k,S k→R k):Onto b R w w':=⟨h.os,h.tape,h.output,h.size,fun k c a d=>h.block k c a (fun e=>d (f k e))⟩
theorem a0y.more{b:Nat}{S R:Nat→Prop}{w w':World}{s:SR}(h:a0y b S w w' s)(c:∀k,S k→R k):a0y b R w w' s:=
 ⟨h.state.weak (fun k a _ _=>by rcases a with a|a;exact .inl (c k a);exact .inr a),h.onto.more c⟩
theorem c5F(n:Nat)(b:Nat)(S:Nat→Prop)(s:SR)(q:a0C×List (RT n)×List (RT n))(P:Nat→Prop)(ve v1 v2:Value)(w:World)(hc:a1j q.1)(h1:a0v n q.2.1)(h2:a0v n q.2.2)(hp:∀p∈q.1.parts,a2q p)(m1:a05 n q.2.1)(m2:a05 n q.2.2)(N:a1h s)
  (hw:s.2.length+a1y (a0z n) q≤100000) (hS:a0E w b S s) (C:a02 w P ve q.1.parts) (A:a0l n w P v1 q.2.1) (B:a0l n w P v2 q.2.2) (hP:∀k,P k→k<b) (I:∀k,S k→b<k) (z:q.1.kind=0):
  Calls prog 101 #[.pointer (some (a__ b 0)),.agg #[i_ q.1.kind,i_ q.1.place,i_ q.1.name,i_ q.1.label,i_ q.1.count,ve,v1,v2]] w fun e w'=>e= .returned (.tuple #[])∧a0y b S w w' (doT (doF n) s q):=by
 obtain⟨c,l1,l2⟩:=q;simp only at*;have Ao:=hS.lt;obtain⟨U,Y,X,T⟩:∃aa D cc,ve= .slice aa D cc:=by
  rcases Joins.ownsRow_forms C.1 with⟨rfl,_⟩|⟨g,Al,rfl⟩<;>exact⟨_,_,_,rfl⟩
 subst T;obtain⟨a1,n1,c1,O⟩:=a0h A;obtain⟨a2,n2,c2,R⟩:=a0h B;have Af:v1= .slice a1 n1 c1∧v2= .slice a2 n2 c2:=⟨O,R⟩
 clear O R;obtain⟨rfl,rfl⟩:=Af;generalize l:w.alloc (.cells #[i_ c.kind,i_ c.place,i_ c.name,i_ c.label,i_ c.count,.slice U Y X,.slice a1 n1 c1,.slice a2 n2 c2] 149)=W;have Ae:=h__ l;have j:B__ w W:=by rw[←l];exact(g_ _ _).alloc (a_ _) _
 have v:a0E W b S s:=hS.keep j (a_ _);have Ag:W.heap.size=w.heap.size+1:=by rw[←l];simp
 have q0:W.cell? (a__ w.heap.size 0)=some (i_ c.kind):=by rw[←l];simp[go_sem]
 have q1:W.cell? (a__ w.heap.size 1)=some (i_ c.place):=by rw[←l];simp[go_sem]
 have q2:W.cell? (a__ w.heap.size 2)=some (i_ c.name):=by rw[←l];simp[go_sem]
 have q3:W.cell? (a__ w.heap.size 3)=some (i_ c.label):=by rw[←l];simp[go_sem]
 have q4:W.cell? (a__ w.heap.size 4)=some (i_ c.count):=by rw[←l];simp[go_sem]
 have q5:W.cell? (a__ w.heap.size 5)=some (.slice U Y X):=by rw[←l];simp[go_sem]
 have q6:W.cell? (a__ w.heap.size 6)=some (.slice a1 n1 c1):=by rw[←l];simp[go_sem]
 have q7:W.cell? (a__ w.heap.size 7)=some (.slice a2 n2 c2):=by rw[←l];simp[go_sem]
 have G:Hid _:=a0U C j;have Ab:Hid _:=a0g A j;have Ac:Hid _:=a0g B j;have M:=v.range N.len;have F:=h__ v;have E:=h__ j;have HS:=h__ N;have HC:=h__ hc;have H1:=h__ h1;have H2:=h__ h2;have M1:=h__ m1;have M2:=h__ m2;have HP:=h__ hP;have Ak:=h__ I;have Aa:=h__ hp;have hu:=underlying102;have hi:(prog.info? 102).map (fun i=>i.size)=some (a0N s.1).length:=by rw[a8X,a3j,N.len]
 have d:w.heap.size<W.heap.size:=by omega
 have f:b<W.heap.size:=by omega
 have Ap:¬w.heap.size=W.heap.size:=by omega
 have Ai:¬b=W.heap.size:=by omega
 have h:Hid (∀V:World,V.heap[b]? =W.heap[b]? →V.heap[w.heap.size]? =W.heap[w.heap.size]? →V.rangeAt b 0 (a0N s.1)∧V.cell? (a__ w.heap.size 5)=some (.slice U Y X)):=fun V e1 e2=>b1Z M q5 e1 e2
 generalize hx:a1O s.1 c.parts=x;have HX:=h__ hx;generalize u:doT (doF n) s (c,l1,l2)=Ah at*;have r:=h__ u;have Am:a0S x:=by rw[←hx];exact a56 N.ok hp
 clear C A B hS N hc h1 h2 hp m1 m2 hP I v j l hx u Ag;obtain⟨n0,Aq⟩:=HC.out.name (.inl z);have HE:Hid ((s.1.set c.name.toNat x,s.2)=Ah):=by have:=r.out;show _=_;rw[←this];unfold doT;simp[z,HX.out]
 clear r;rw[z]at q0;have HK:=h__ z;clear z;generalize J:c.name=nm at*;obtain⟨D,rfl⟩:∃D:Nat,nm=D:=⟨nm.toNat,by omega⟩
 rw[W_]at HE;have Aj:=h__ J;clear J;have L:D<26:=by omega
 go_enter func101,ntmps101;go_upto_region 1 with fail;rw[Ae.out];go_upto_region 3 with fail
 go_cut [4]from 4 to 75 (fun y wx=>∃H,y= .pointer (some (a__ H 0))∧B__ W wx∧wx.cell? (a__ H 0)=some (i_ x.num)∧wx.cell? (a__ H 1)=some (i_ x.fault)∧W.heap.size≤H)
 case first=>
  go_region_held3 (fun w'=>w'.rangeAt b 0 (a0N s.1)∧w'.cell? (a__ w.heap.size 5)=some (.slice U Y X)) (first|exact h.out _ rfl rfl|exact h.out _ (a.block _ f) (a.block _ d)|exact h.out _ ((q_ _ _ _ (Q_ f a.size)).trans (a.block _ f)) ((q_ _ _ _ (Q_ d a.size)).trans (a.block _ d))|exact h.out _ (q_ _ _ _ f) (q_ _ _ _ d)|exact h.out _ ((a.block _ (by simp;omega)).trans (q_ _ _ _ f)) ((a.block _ (by simp;omega)).trans (q_ _ _ _ d))|exact h.out _ (((o_ _ _ _ _ (by simp only;omega)).trans (o_ _ _ _ _ (by simp only;omega))).trans ((a.block _ (by simp;omega)).trans (q_ _ _ _ f))) (((o_ _ _ _ _ (by simp only;omega)).trans (o_ _ _ _ _ (by simp only;omega))).trans ((a.block _ (by simp;omega)).trans (q_ _ _ _ d)))) ((go_at_call 135;refine(a71 c.parts s.1 P _ _ HS.out.len HS.out.ok HC.out.few HC.out.parts Aa.out (a0U G.out (by first|exact(g_ _ _).drew|exact((g_ _ _).alloc (a_ _) _).drew))).mono ?_;rintro x1 w5 ⟨rfl,a⟩;rw[HX.out];(first|(have zz:=b0L (W:=W) (t:=59) a;obtain⟨z0,z1,zf,zb⟩:=zz)|skip)))
  all_goals (go_wp2_with fail;go_meet)
  ·refine⟨w5.heap.size,rfl,?_,by simp[go_sem],by simp[go_sem],(a2i a).size⟩;exact(a2i a).alloc (a2i a).size _
  ·exact⟨W.heap.size,rfl,(zb.setCell (a_ _) _).setCell (a_ _) _,by simp[go_sem,z0,z1],by simp[go_sem,z0,z1],a_ _⟩
 case rest=>
  obtain⟨H,rfl,o,y0,y1,An⟩:=hcut;have m:a0E wc b S s:=F.out.keep o (a_ _);have Z:Hid _:=E.out.trans (o.mono (by omega));rw[←o.cell (p:=(a__ w.heap.size 2)) d]at q2;clear o F Ab Ac E G q0 q1 q3 q4 q5 q6 q7 M hu hi h;obtain⟨e0,e1⟩:=m.cell D L;have fz:=m.fz;have Ad:=h__ m;clear m;go_wp2_with fail;go_region;all_goals go_wp2_with fail
  all_goals go_end0
  all_goals refine⟨rfl,?_⟩
  all_goals rw[←HE.out]
  all_goals exact⟨((Ad.out.set HS.out.len D L x).drew).weak (fun k z _ _=> .inl z),(((Onto.of_below Z.out).setCell _ _).setCell _ _).drew⟩
theorem c5H(n:Nat)(b:Nat)(S:Nat→Prop)(s:SR)(q:a0C×List (RT n)×List (RT n))(P:Nat→Prop)(ve v1 v2:Value)(w:World)(hc:a1j q.1)(h1:a0v n q.2.1)(h2:a0v n q.2.2)(hp:∀p∈q.1.parts,a2q p)(m1:a05 n q.2.1)(m2:a05 n q.2.2)(R:a1h s)
  (hw:s.2.length+a1y (a0z n) q≤100000) (hS:a0E w b S s) (G:a02 w P ve q.1.parts) (E:a0l n w P v1 q.2.1) (F:a0l n w P v2 q.2.2) (hP:∀k,P k→k<b) (L:∀k,S k→b<k) (u:q.1.kind=1):
  Calls prog 101 #[.pointer (some (a__ b 0)),.agg #[i_ q.1.kind,i_ q.1.place,i_ q.1.name,i_ q.1.label,i_ q.1.count,ve,v1,v2]] w fun e w'=>e= .returned (.tuple #[])∧a0y b S w w' (doT (doF n) s q):=by
 obtain⟨c,l1,l2⟩:=q;simp only at*;have Az:=hS.lt;obtain⟨Y,ne,Z,X⟩:∃aa v cc,ve= .slice aa v cc:=by
  rcases Joins.ownsRow_forms G.1 with⟨rfl,_⟩|⟨g,As,rfl⟩<;>exact⟨_,_,_,rfl⟩
 subst X;obtain⟨a1,n1,c1,T⟩:=a0h E;obtain⟨a2,n2,c2,U⟩:=a0h F;have Ag:v1= .slice a1 n1 c1∧v2= .slice a2 n2 c2:=⟨T,U⟩
 clear T U;obtain⟨rfl,rfl⟩:=Ag;generalize m:w.alloc (.cells #[i_ c.kind,i_ c.place,i_ c.name,i_ c.label,i_ c.count,.slice Y ne Z,.slice a1 n1 c1,.slice a2 n2 c2] 149)=W;have Af:=h__ m;have l:B__ w W:=by rw[←m];exact(g_ _ _).alloc (a_ _) _
 have D:a0E W b S s:=hS.keep l (a_ _);have Ah:W.heap.size=w.heap.size+1:=by rw[←m];simp
 have q0:W.cell? (a__ w.heap.size 0)=some (i_ c.kind):=by rw[←m];simp[go_sem]
 have q1:W.cell? (a__ w.heap.size 1)=some (i_ c.place):=by rw[←m];simp[go_sem]
 have q2:W.cell? (a__ w.heap.size 2)=some (i_ c.name):=by rw[←m];simp[go_sem]
 have q3:W.cell? (a__ w.heap.size 3)=some (i_ c.label):=by rw[←m];simp[go_sem]
 have q4:W.cell? (a__ w.heap.size 4)=some (i_ c.count):=by rw[←m];simp[go_sem]
 have q5:W.cell? (a__ w.heap.size 5)=some (.slice Y ne Z):=by rw[←m];simp[go_sem]
 have q6:W.cell? (a__ w.heap.size 6)=some (.slice a1 n1 c1):=by rw[←m];simp[go_sem]
 have q7:W.cell? (a__ w.heap.size 7)=some (.slice a2 n2 c2):=by rw[←m];simp[go_sem]
 have J:Hid _:=a0U G l;have Ad:Hid _:=a0g E l;have Ae:Hid _:=a0g F l;have O:=D.range R.len;have I:=h__ D;have H:=h__ l;have HS:=h__ R;have HC:=h__ hc;have H1:=h__ h1;have H2:=h__ h2;have M1:=h__ m1;have M2:=h__ m2;have HP:=h__ hP;have Aq:=h__ L;have Ac:=h__ hp;have hu:=underlying102;have hi:(prog.info? 102).map (fun i=>i.size)=some (a0N s.1).length:=by rw[a8X,a3j,R.len]
 have a:w.heap.size<W.heap.size:=by omega
 have h:b<W.heap.size:=by omega
 have AA:¬w.heap.size=W.heap.size:=by omega
 have Ao:¬b=W.heap.size:=by omega
 have j:Hid (∀V:World,V.heap[b]? =W.heap[b]? →V.heap[w.heap.size]? =W.heap[w.heap.size]? →V.rangeAt b 0 (a0N s.1)∧V.cell? (a__ w.heap.size 5)=some (.slice Y ne Z)):=fun V e1 e2=>b1Z O q5 e1 e2
 generalize hx:a1O s.1 c.parts=x;have HX:=h__ hx;generalize B:doT (doF n) s (c,l1,l2)=Al at*;have z:=h__ B;have At:a0S x:=by rw[←hx];exact a56 R.ok hp
 clear G E F hS R hc h1 h2 hp m1 m2 hP L D l m hx B Ah;obtain⟨n0,Ak⟩:=HC.out.name (.inr u);have HE:Hid ((s.1.set c.name.toNat x,s.2++ [⟨1,c.place,c.label,x⟩])=Al):=by have:=z.out;show _=_;rw[←this];unfold doT;simp[u,HX.out]
 clear z;have M:s.2.length≤100000:=by omega
 have HK:=h__ u;have Ax:(c.kind==0)=false:=by simp[u]
 have Ay:(c.kind==1)=true:=by simp[u]
 clear u;generalize Ai:c.name.toNat=v at*;have N:v<26:=by omega
 have r:c.name=(v:Int):=by omega
 rw[r]at q2;have Ap:=h__ r;clear Ai r n0 Ak;go_enter func101,ntmps101;go_upto_region 1 with fail;rw[Af.out];go_upto_region 6 with fail
 go_cut [5]from 4 to 75 (fun y wx=>∃C,y= .pointer (some (a__ C 0))∧B__ W wx∧wx.cell? (a__ C 0)=some (i_ x.num)∧wx.cell? (a__ C 1)=some (i_ x.fault)∧W.heap.size≤C)
 case first=>
  go_region_held3 (fun w'=>w'.rangeAt b 0 (a0N s.1)∧w'.cell? (a__ w.heap.size 5)=some (.slice Y ne Z)) (first|exact j.out _ rfl rfl|exact j.out _ (d.block _ h) (d.block _ a)|exact j.out _ ((q_ _ _ _ (Q_ h d.size)).trans (d.block _ h)) ((q_ _ _ _ (Q_ a d.size)).trans (d.block _ a))|exact j.out _ (q_ _ _ _ h) (q_ _ _ _ a)|exact j.out _ ((d.block _ (by simp;omega)).trans (q_ _ _ _ h)) ((d.block _ (by simp;omega)).trans (q_ _ _ _ a))|exact j.out _ (((o_ _ _ _ _ (by simp only;omega)).trans (o_ _ _ _ _ (by simp only;omega))).trans ((d.block _ (by simp;omega)).trans (q_ _ _ _ h))) (((o_ _ _ _ _ (by simp only;omega)).trans (o_ _ _ _ _ (by simp only;omega))).trans ((d.block _ (by simp;omega)).trans (q_ _ _ _ a)))) ((go_at_call 135;refine(a71 c.parts s.1 P _ _ HS.out.len HS.out.ok HC.out.few HC.out.parts Ac.out (a0U J.out (by first|exact(g_ _ _).drew|exact((g_ _ _).alloc (a_ _) _).drew))).mono ?_;rintro x1 w5 ⟨rfl,d⟩;rw[HX.out];(first|(have zz:=b0L (W:=W) (t:=59) d;obtain⟨z0,z1,zf,zb⟩:=zz)|skip)))
  all_goals (go_wp2_with fail;go_meet)
  ·refine⟨w5.heap.size,rfl,?_,by simp[go_sem],by simp[go_sem],(a2i d).size⟩;exact(a2i d).alloc (a2i d).size _
  ·exact⟨W.heap.size,rfl,(zb.setCell (a_ _) _).setCell (a_ _) _,by simp[go_sem,z0,z1],by simp[go_sem,z0,z1],a_ _⟩
 case rest=>
  obtain⟨C,rfl,f,y0,y1,Aw⟩:=hcut;have o:a0E wc b S s:=I.out.keep f (a_ _);have Ab:Hid _:=H.out.trans (f.mono (by omega));rw[←f.cell (p:=(a__ w.heap.size 0)) a]at q0;rw[←f.cell (p:=(a__ w.heap.size 1)) a]at q1;rw[←f.cell (p:=(a__ w.heap.size 2)) a]at q2;rw[←f.cell (p:=(a__ w.heap.size 3)) a]at q3;rw[←f.cell (p:=(a__ w.heap.size 4)) a]at q4;rw[←f.cell (p:=(a__ w.heap.size 5)) a]at q5;rw[←f.cell (p:=(a__ w.heap.size 6)) a]at q6;rw[←f.cell (p:=(a__ w.heap.size 7)) a]at q7;clear f I Ad Ae H J O hu hi j;obtain⟨e0,e1⟩:=o.cell v N;have fz:=o.fz;have Ar:=h__ o;have Av:¬b=w.heap.size:=by omega
  have An:¬w.heap.size=b:=by omega
  have Au:¬b=C:=by omega
  have Am:¬C=b:=by omega
  have A:Hid _:=(o.set HS.out.len v N x).drew;have Aa:Hid (Onto b S w ((wc.setCell (a__ b (v*2)) (i_ x.num)).setCell (a__ b (v*2+1)) (i_ x.fault)).drew):=(((Onto.of_below Ab.out).setCell _ _).setCell _ _).drew;clear o;go_wp2_with fail;go_region;go_wp2_with fail;refine(b5z b (s.1.set v x,s.2) 1 ⟨c.kind,c.place,v,c.label,c.count,c.parts⟩ _ _ _ x _ S A.out (by simpa using M)).mono ?_;rintro e w6 ⟨rfl,Aj⟩;go_wp2_with fail;go_end0;rw[←HE.out];exact⟨rfl,a0y.trans ⟨A.out.weak (fun k u _ _=> .inl u),Aa.out⟩ (Aj.more (fun k u=> .inl u))⟩
theorem c5J(n:Nat)(b:Nat)(S:Nat→Prop)(s:SR)(q:a0C×List (RT n)×List (RT n))(P:Nat→Prop)(ve v1 v2:Value)(w:World)(hc:a1j q.1)(h1:a0v n q.2.1)(h2:a0v n q.2.2)(hp:∀p∈q.1.parts,a2q p)(m1:a05 n q.2.1)(m2:a05 n q.2.2)(L:a1h s)
  (hw:s.2.length+a1y (a0z n) q≤100000) (hS:a0E w b S s) (A:a02 w P ve q.1.parts) (v:a0l n w P v1 q.2.1) (z:a0l n w P v2 q.2.2) (hP:∀k,P k→k<b) (G:∀k,S k→b<k) (H:q.1.kind=2):
  Calls prog 101 #[.pointer (some (a__ b 0)),.agg #[i_ q.1.kind,i_ q.1.place,i_ q.1.name,i_ q.1.label,i_ q.1.count,ve,v1,v2]] w fun e w'=>e= .returned (.tuple #[])∧a0y b S w w' (doT (doF n) s q):=by
 obtain⟨c,l1,l2⟩:=q;simp only at*;have Ap:=hS.lt;obtain⟨R,U,T,O⟩:∃aa nn cc,ve= .slice aa nn cc:=by
  rcases Joins.ownsRow_forms A.1 with⟨rfl,_⟩|⟨g,Aj,rfl⟩<;>exact⟨_,_,_,rfl⟩
 subst O;obtain⟨a1,n1,c1,M⟩:=a0h v;obtain⟨a2,n2,c2,N⟩:=a0h z;have Ad:v1= .slice a1 n1 c1∧v2= .slice a2 n2 c2:=⟨M,N⟩
 clear M N;obtain⟨rfl,rfl⟩:=Ad;generalize m:w.alloc (.cells #[i_ c.kind,i_ c.place,i_ c.name,i_ c.label,i_ c.count,.slice R U T,.slice a1 n1 c1,.slice a2 n2 c2] 149)=W;have Ac:=h__ m;have l:B__ w W:=by rw[←m];exact(g_ _ _).alloc (a_ _) _
 have u:a0E W b S s:=hS.keep l (a_ _);have Ae:W.heap.size=w.heap.size+1:=by rw[←m];simp
 have q0:W.cell? (a__ w.heap.size 0)=some (i_ c.kind):=by rw[←m];simp[go_sem]
 have q1:W.cell? (a__ w.heap.size 1)=some (i_ c.place):=by rw[←m];simp[go_sem]
 have q2:W.cell? (a__ w.heap.size 2)=some (i_ c.name):=by rw[←m];simp[go_sem]
 have q3:W.cell? (a__ w.heap.size 3)=some (i_ c.label):=by rw[←m];simp[go_sem]
 have q4:W.cell? (a__ w.heap.size 4)=some (i_ c.count):=by rw[←m];simp[go_sem]
 have q5:W.cell? (a__ w.heap.size 5)=some (.slice R U T):=by rw[←m];simp[go_sem]
 have q6:W.cell? (a__ w.heap.size 6)=some (.slice a1 n1 c1):=by rw[←m];simp[go_sem]
 have q7:W.cell? (a__ w.heap.size 7)=some (.slice a2 n2 c2):=by rw[←m];simp[go_sem]
 have D:Hid _:=a0U A l;have Z:Hid _:=a0g v l;have Aa:Hid _:=a0g z l;have J:=u.range L.len;have C:=h__ u;have B:=h__ l;have HS:=h__ L;have HC:=h__ hc;have H1:=h__ h1;have H2:=h__ h2;have M1:=h__ m1;have M2:=h__ m2;have HP:=h__ hP;have Ai:=h__ G;have Y:=h__ hp;have hu:=underlying102;have hi:(prog.info? 102).map (fun i=>i.size)=some (a0N s.1).length:=by rw[a8X,a3j,L.len]
 have a:w.heap.size<W.heap.size:=by omega
 have h:b<W.heap.size:=by omega
 have Aq:¬w.heap.size=W.heap.size:=by omega
 have Ah:¬b=W.heap.size:=by omega
 have j:Hid (∀V:World,V.heap[b]? =W.heap[b]? →V.heap[w.heap.size]? =W.heap[w.heap.size]? →V.rangeAt b 0 (a0N s.1)∧V.cell? (a__ w.heap.size 5)=some (.slice R U T)):=fun V e1 e2=>b1Z J q5 e1 e2
 generalize hx:a1O s.1 c.parts=x;have HX:=h__ hx;generalize r:doT (doF n) s (c,l1,l2)=Ag at*;have o:=h__ r;have Ak:a0S x:=by rw[←hx];exact a56 L.ok hp
 clear A v z hS L hc h1 h2 hp m1 m2 hP G u l m hx r Ae;have HE:Hid ((s.1,s.2++ [⟨0,c.place,c.label,x⟩])=Ag):=by have:=o.out;show _=_;rw[←this];unfold doT;simp[H,HX.out]
 clear o;have I:s.2.length≤100000:=by omega
 have Am:(c.kind==0)=false:=by simp[H]
 have An:(c.kind==1)=false:=by simp[H]
 have Ao:(c.kind==2)=true:=by simp[H]
 clear H;go_enter func101,ntmps101;go_upto_region 1 with fail;rw[Ac.out];go_upto_region 10 with fail
 go_cut [6]from 4 to 75 (fun y wx=>∃E,y= .pointer (some (a__ E 0))∧B__ W wx∧wx.cell? (a__ E 0)=some (i_ x.num)∧wx.cell? (a__ E 1)=some (i_ x.fault)∧W.heap.size≤E)
 case first=>
  go_region_held3 (fun w'=>w'.rangeAt b 0 (a0N s.1)∧w'.cell? (a__ w.heap.size 5)=some (.slice R U T)) (first|exact j.out _ rfl rfl|exact j.out _ (d.block _ h) (d.block _ a)|exact j.out _ ((q_ _ _ _ (Q_ h d.size)).trans (d.block _ h)) ((q_ _ _ _ (Q_ a d.size)).trans (d.block _ a))|exact j.out _ (q_ _ _ _ h) (q_ _ _ _ a)|exact j.out _ ((d.block _ (by simp;omega)).trans (q_ _ _ _ h)) ((d.block _ (by simp;omega)).trans (q_ _ _ _ a))|exact j.out _ (((o_ _ _ _ _ (by simp only;omega)).trans (o_ _ _ _ _ (by simp only;omega))).trans ((d.block _ (by simp;omega)).trans (q_ _ _ _ h))) (((o_ _ _ _ _ (by simp only;omega)).trans (o_ _ _ _ _ (by simp only;omega))).trans ((d.block _ (by simp;omega)).trans (q_ _ _ _ a)))) ((go_at_call 135;refine(a71 c.parts s.1 P _ _ HS.out.len HS.out.ok HC.out.few HC.out.parts Y.out (a0U D.out (by first|exact(g_ _ _).drew|exact((g_ _ _).alloc (a_ _) _).drew))).mono ?_;rintro x1 w5 ⟨rfl,d⟩;rw[HX.out];(first|(have zz:=b0L (W:=W) (t:=59) d;obtain⟨z0,z1,zf,zb⟩:=zz)|skip)))
  all_goals (go_wp2_with fail;go_meet)
  ·refine⟨w5.heap.size,rfl,?_,by simp[go_sem],by simp[go_sem],(a2i d).size⟩;exact(a2i d).alloc (a2i d).size _
  ·exact⟨W.heap.size,rfl,(zb.setCell (a_ _) _).setCell (a_ _) _,by simp[go_sem,z0,z1],by simp[go_sem,z0,z1],a_ _⟩
 case rest=>
  obtain⟨E,rfl,f,y0,y1,Al⟩:=hcut;have F:a0E wc b S s:=C.out.keep f (a_ _);have X:Hid _:=B.out.trans (f.mono (by omega));rw[←f.cell (p:=(a__ w.heap.size 0)) a]at q0;rw[←f.cell (p:=(a__ w.heap.size 1)) a]at q1;rw[←f.cell (p:=(a__ w.heap.size 2)) a]at q2;rw[←f.cell (p:=(a__ w.heap.size 3)) a]at q3;rw[←f.cell (p:=(a__ w.heap.size 4)) a]at q4;rw[←f.cell (p:=(a__ w.heap.size 5)) a]at q5;rw[←f.cell (p:=(a__ w.heap.size 6)) a]at q6;rw[←f.cell (p:=(a__ w.heap.size 7)) a]at q7;clear f C Z Aa B D J hu hi j;have Ab:=h__ F;clear F;go_wp2_with fail;refine(b5z b s 0 c _ _ _ x _ S Ab.out I).mono ?_;rintro e w6 ⟨rfl,Af⟩;go_wp2_with fail;go_end0;rw[←HE.out];exact⟨rfl,Af.pre X.out⟩
theorem c5E(n:Nat)(ih:a58 n)(b:Nat)(S:Nat→Prop)(s:SR)(q:a0C×List (RT n)×List (RT n))(P:Nat→Prop)(ve v1 v2:Value)(w:World)(hc:a1j q.1)(h1:a0v n q.2.1)(h2:a0v n q.2.2)(hp:∀p∈q.1.parts,a2q p)(m1:a05 n q.2.1)(m2:a05 n q.2.2)(hs:a1h s)
  (hw:s.2.length+a1y (a0z n) q≤100000) (L:a0E w b S s) (u:a02 w P ve q.1.parts) (r:a0l n w P v1 q.2.1) (t:a0l n w P v2 q.2.2) (hP:∀k,P k→k<b) (C:∀k,S k→b<k) (m:q.1.kind=3):
  Calls prog 101 #[.pointer (some (a__ b 0)),.agg #[i_ q.1.kind,i_ q.1.place,i_ q.1.name,i_ q.1.label,i_ q.1.count,ve,v1,v2]] w fun e w'=>e= .returned (.tuple #[])∧a0y b S w w' (doT (doF n) s q):=by
 have IH:Hid (a58 n):=ih;clear ih;obtain⟨c,y,z⟩:=q;simp only at*;have Ao:=L.lt;obtain⟨ae,ne,ce,F⟩:∃aa nn cc,ve= .slice aa nn cc:=by
  rcases Joins.ownsRow_forms u.1 with⟨rfl,_⟩|⟨g,Ai,rfl⟩<;>exact⟨_,_,_,rfl⟩
 subst F;obtain⟨G,M,I,D⟩:=a0h r;obtain⟨H,N,J,E⟩:=a0h t;have Aa:v1= .slice G M I∧v2= .slice H N J:=⟨D,E⟩
 clear D E;obtain⟨rfl,rfl⟩:=Aa;generalize l:w.alloc (.cells #[i_ c.kind,i_ c.place,i_ c.name,i_ c.label,i_ c.count,.slice ae ne ce,.slice G M I,.slice H N J] 149)=W;have Z:=h__ l;have j:B__ w W:=by rw[←l];exact(g_ _ _).alloc (a_ _) _
 have B:a0E W b S s:=L.keep j (a_ _);have Ab:W.heap.size=w.heap.size+1:=by rw[←l];simp
 have q0:W.cell? (a__ w.heap.size 0)=some (i_ c.kind):=by rw[←l];simp[go_sem]
 have q1:W.cell? (a__ w.heap.size 1)=some (i_ c.place):=by rw[←l];simp[go_sem]
 have q2:W.cell? (a__ w.heap.size 2)=some (i_ c.name):=by rw[←l];simp[go_sem]
 have q3:W.cell? (a__ w.heap.size 3)=some (i_ c.label):=by rw[←l];simp[go_sem]
 have q4:W.cell? (a__ w.heap.size 4)=some (i_ c.count):=by rw[←l];simp[go_sem]
 have q5:W.cell? (a__ w.heap.size 5)=some (.slice ae ne ce):=by rw[←l];simp[go_sem]
 have q6:W.cell? (a__ w.heap.size 6)=some (.slice G M I):=by rw[←l];simp[go_sem]
 have q7:W.cell? (a__ w.heap.size 7)=some (.slice H N J):=by rw[←l];simp[go_sem]
 have Y:Hid (a02 W P (.slice ae ne ce) c.parts):=a0U u j;have T:Hid (a0l n W P (.slice G M I) y):=a0g r j;have U:Hid (a0l n W P (.slice H N J) z):=a0g t j;have X:Hid (a0E W b S s):=B;have Ae:Hid (a0E W b (fun k=>S k∧k<w.heap.size) s):=(L.weak (fun k m _ hl=>⟨m,hl⟩)).keep j (a_ _);have O:Hid (B__ w W):=j;have HS:Hid (a1h s):=hs;have HC:Hid (a1j c):=hc;have H1:Hid (a0v n y):=h1;have H2:Hid (a0v n z):=h2;have M1:Hid (a05 n y):=m1;have M2:Hid (a05 n z):=m2;have HP:Hid (∀k,P k→k<b):=hP;have V:Hid (∀k,S k→b<k):=C;have R:Hid (∀p∈c.parts,a2q p):=hp;have Ag:w.heap.size<W.heap.size:=by omega
 have Af:b<W.heap.size:=by omega
 have Ap:¬w.heap.size=W.heap.size:=by omega
 have Ah:¬b=W.heap.size:=by omega
 generalize hx:a1O s.1 c.parts=x;have HX:Hid (a1O s.1 c.parts=x):=hx;generalize o:doT (doF n) s (c,y,z)=Ad at*;have A:Hid (doT (doF n) s (c,y,z)=Ad):=o;have Aj:a0S x:=by rw[←hx];exact a56 hs.ok hp
 clear u r t L hs hc h1 h2 hp m1 m2 hP C B j l hx o Ab;have Ak:(c.kind==0)=false:=by simp[m]
 have Al:(c.kind==1)=false:=by simp[m]
 have Am:(c.kind==2)=false:=by simp[m]
 have An:(c.kind==3)=true:=by simp[m]
 have HK:Hid (c.kind=3):=m;clear m;go_enter func101,ntmps101;go_upto_region 1 with fail;rw[Z.out];go_wp2_with fail;refine(b8E n IH.out b S s (c,y,z) P _ _ _ _ HK.out HC.out H1.out H2.out R.out M1.out M2.out HS.out hw X.out Y.out T.out U.out HP.out V.out).mono ?_;rw[A.out];rintro e w6 ⟨rfl,Ac⟩;go_wp2_with fail;go_end0;exact⟨rfl,Ac.pre O.out⟩
theorem c5G(n:Nat)(ih:a58 n)(b:Nat)(S:Nat→Prop)(s:SR)(q:a0C×List (RT n)×List (RT n))(P:Nat→Prop)(ve v1 v2:Value)(w:World)(hc:a1j q.1)(h1:a0v n q.2.1)(h2:a0v n q.2.2)(hp:∀p∈q.1.parts,a2q p)(m1:a05 n q.2.1)(m2:a05 n q.2.2)(hs:a1h s)
  (hw:s.2.length+a1y (a0z n) q≤100000) (hS:a0E w b S s) (R:a02 w P ve q.1.parts) (N:a0l n w P v1 q.2.1) (O:a0l n w P v2 q.2.2) (hP:∀k,P k→k<b) (Af:∀k,S k→b<k) (m:q.1.kind=4):
  Calls prog 101 #[.pointer (some (a__ b 0)),.agg #[i_ q.1.kind,i_ q.1.place,i_ q.1.name,i_ q.1.label,i_ q.1.count,ve,v1,v2]] w fun e w'=>e= .returned (.tuple #[])∧a0y b S w w' (doT (doF n) s q):=by
 have IH:Hid (a58 n):=ih;clear ih;obtain⟨c,l,U⟩:=q;simp only at*;have AJ:=hS.lt;obtain⟨ae,ne,ce,Ai⟩:∃aa nn cc,ve= .slice aa nn cc:=by
  rcases Joins.ownsRow_forms R.1 with⟨rfl,_⟩|⟨g,AA,rfl⟩<;>exact⟨_,_,_,rfl⟩
 subst Ai;obtain⟨L,T,M,Ag⟩:=a0h N;obtain⟨a2,n2,c2,Ah⟩:=a0h O;have Ap:v1= .slice L T M∧v2= .slice a2 n2 c2:=⟨Ag,Ah⟩
 clear Ag Ah;obtain⟨rfl,rfl⟩:=Ap;generalize u:w.alloc (.cells #[i_ c.kind,i_ c.place,i_ c.name,i_ c.label,i_ c.count,.slice ae ne ce,.slice L T M,.slice a2 n2 c2] 149)=W;have Ao:=h__ u;have o:B__ w W:=by rw[←u];exact(g_ _ _).alloc (a_ _) _
 have Ae:a0E W b S s:=hS.keep o (a_ _);have Aq:W.heap.size=w.heap.size+1:=by rw[←u];simp
 have q0:W.cell? (a__ w.heap.size 0)=some (i_ c.kind):=by rw[←u];simp[go_sem]
 have q1:W.cell? (a__ w.heap.size 1)=some (i_ c.place):=by rw[←u];simp[go_sem]
 have q2:W.cell? (a__ w.heap.size 2)=some (i_ c.name):=by rw[←u];simp[go_sem]
 have q3:W.cell? (a__ w.heap.size 3)=some (i_ c.label):=by rw[←u];simp[go_sem]
 have q4:W.cell? (a__ w.heap.size 4)=some (i_ c.count):=by rw[←u];simp[go_sem]
 have q5:W.cell? (a__ w.heap.size 5)=some (.slice ae ne ce):=by rw[←u];simp[go_sem]
 have q6:W.cell? (a__ w.heap.size 6)=some (.slice L T M):=by rw[←u];simp[go_sem]
 have q7:W.cell? (a__ w.heap.size 7)=some (.slice a2 n2 c2):=by rw[←u];simp[go_sem]
 have Az:Hid (a02 W P (.slice ae ne ce) c.parts):=a0U R o;have Am:Hid (a0l n W P (.slice L T M) l):=a0g N o;have Ax:Hid (a0l n W P (.slice a2 n2 c2) U):=a0g O o;have Ay:Hid (a0E W b S s):=Ae;have Ad:Hid (a0E W b (fun k=>S k∧k<w.heap.size) s):=(hS.weak (fun k m _ hl=>⟨m,hl⟩)).keep o (a_ _);have Ak:Hid (B__ w W):=o;have HS:Hid (a1h s):=hs;have HC:Hid (a1j c):=hc;have H1:Hid (a0v n l):=h1;have H2:Hid (a0v n U):=h2;have M1:Hid (a05 n l):=m1;have M2:Hid (a05 n U):=m2;have HP:Hid (∀k,P k→k<b):=hP;have An:Hid (∀k,S k→b<k):=Af;have Aw:Hid (∀p∈c.parts,a2q p):=hp;have At:w.heap.size<W.heap.size:=by omega
 have As:b<W.heap.size:=by omega
 have AK:¬w.heap.size=W.heap.size:=by omega
 have Au:¬b=W.heap.size:=by omega
 generalize hx:a1O s.1 c.parts=x;have HX:Hid (a1O s.1 c.parts=x):=hx;generalize H:doT (doF n) s (c,l,U)=A at*;have F:Hid (doT (doF n) s (c,l,U)=A):=H;have AB:a0S x:=by rw[←hx];exact a56 hs.ok hp
 clear R N O hS hs hc h1 h2 hp m1 m2 hP Af Ae o u hx H Aq;have AD:(c.kind==0)=false:=by simp[m]
 have AE:(c.kind==1)=false:=by simp[m]
 have AF:(c.kind==2)=false:=by simp[m]
 have AG:(c.kind==3)=false:=by simp[m]
 have AH:(c.kind==4)=true:=by simp[m]
 have Aj:a1y (a0z n) (c,l,U)=1+c.count.toNat*(1+a0z n l):=by unfold a1y;rw[n_ m]
 rw[Aj]at hw;have HE:Hid (a7L (fun s=>doF n s l) c.count.toNat s=A):=by have:=F.out;show _=_;rw[←this];unfold doT;simp[m]
 clear Aj m F;obtain⟨c0,c9⟩:=HC.out.count;obtain⟨j,r⟩:∃j:Nat,c.count=j:=⟨c.count.toNat,by omega⟩
 rw[r,W_]at hw HE;rw[r]at q4;have AC:j≤9:=by omega
 have Av:Hid (c.count=(j:Int)):=r;clear r c0 c9;have E:a0y b (fun k=>S k∧k<w.heap.size) W W s:=a0y.still Ad.out (g_ _ _);have HM:Hid (s.2.length+j*(1+a0z n l)≤100000):=by show _≤_;omega
 clear hw;go_enter func101,ntmps101;go_upto_region 1 with fail;rw[Ao.out];go_wp2_with fail;go_loopw [7] (fun y w'=>∃(k:Nat) (B:SR),y=i_ k∧k≤j∧Hid (a1h B)∧Hid (B.2.length+(j-k)*(1+a0z n l)≤100000)∧Hid (a0y b (fun k=>S k∧k<w.heap.size) W w' B)∧Hid (w'.heap[w.heap.size]? =W.heap[w.heap.size]?)∧Hid (a0l n w' P (.slice L T M) l)∧Hid (a7L (fun s=>doF n s l) (j-k) B=A)) (fun y _=>j-(intOf y).toNat);case atStart=>exact⟨0,s,rfl,by omega,HS,HM,E,rfl,Am,HE⟩
 case round=>
  obtain⟨k,B,rfl,m,Aa,Al,t,C,J,X⟩:=hrel;have g4:wr.cell? (a__ w.heap.size 4)=some (i_ j):=(e_ (a:=(a__ w.heap.size 4)) C.out).trans q4;have g6:wr.cell? (a__ w.heap.size 6)=some (.slice L T M):=(e_ (a:=(a__ w.heap.size 6)) C.out).trans q6;clear q0 q1 q2 q3 q4 q5 q6 q7;by_cases AI:k<j
  ·have tk:decide ((k:Int)<(j:Int))=true:=by simp;omega
   have Ar:b<wr.heap.size:=t.out.state.lt;have AL:W.heap.size≤wr.heap.size:=t.out.onto.size;have G:∀k,((S k∧k<w.heap.size)∨W.heap.size≤k)→b<k:=fun k m=>by
    rcases m with m|m
    ·exact An.out k m.1
    ·omega
   have z:=h__ G;clear G;have Y:Hid (B.2.length+a0z n l+(j-(k+1))*(1+a0z n l)≤100000):=by
    have h1:=Al.out;have h2:(j-k)*(1+a0z n l)=(j-(k+1))*(1+a0z n l)+(1+a0z n l):=by
     rw[show j-k=(j-(k+1))+1 by omega,b_d]
    show _≤_;omega
   have Ab:Hid _:=b3l n l B M1.out H1.out Aa.out;have I:Hid (a7L (fun s=>doF n s l) (j-(k+1)) (doF n B l)=A):=by
    have:=X.out;rw[show j-k=(j-(k+1))+1 by omega]at this;exact this
   go_wp2_with fail;refine(IH.out b (fun k=>(S k∧k<w.heap.size)∨W.heap.size≤k) B l P _ _ H1.out M1.out Aa.out (by have:=Y.out;omega) t.out.state J.out HP.out z.out).mono ?_;rintro e w6 ⟨rfl,D⟩;have Ac:Hid (a0y b (fun k=>S k∧k<w.heap.size) W w6 (doF n B l)):=t.out.trans D;have V:Hid (w6.heap[w.heap.size]? =W.heap[w.heap.size]?):=(D.onto.block w.heap.size (by omega) (by omega) (fun e=>by rcases e with e|e;exact absurd e.2 (by omega);omega)).trans C.out;have Z:Hid (a0l n w6 P (.slice L T M) l):=a2V J.out HP.out (D.onto.below Ar z.out);clear D g4 g6 t C J z;go_wp2_with fail;go_roundw;case rel=>exact⟨k+1,_,by go_num,by omega,Ab.out.1,by show _≤_;have h1:=Ab.out.2;have h2:=Y.out;omega,Ac,V,Z,I⟩
   case measure=>simp[intOf];omega
  ·have tk:decide ((k:Int)<(j:Int))=false:=by simp;omega
   have I:Hid (B=A):=by
    have:=X.out;rw[show j-k=0 by omega]at this;exact this
   go_wp2_with fail;go_end0;rw[←I.out];exact⟨rfl,(t.out.more (fun k m=>m.1)).pre Ak.out⟩
theorem c5I(n:Nat)(z:a58 n)(b:Nat)(S:Nat→Prop)(s:SR)(q:a0C×List (RT n)×List (RT n))(P:Nat→Prop)(i g h:Value)(w:World)(j:a1j q.1)(l:a0v n q.2.1)(m:a0v n q.2.2)(t:∀p∈q.1.parts,a2q p)(x:a05 n q.2.1)(y:a05 n q.2.2)(u:a1h s)
  (v:s.2.length+a1y (a0z n) q≤100000) (r:a0E w b S s) (f:a02 w P i q.1.parts) (c:a0l n w P g q.2.1) (d:a0l n w P h q.2.2) (o:∀k,P k→k<b) (a:∀k,S k→b<k):
  Calls prog 101 #[.pointer (some (a__ b 0)),.agg #[i_ q.1.kind,i_ q.1.place,i_ q.1.name,i_ q.1.label,i_ q.1.count,i,g,h]] w fun e w'=>e= .returned (.tuple #[])∧a0y b S w w' (doT (doF n) s q):=by
 obtain⟨E,F⟩:=j.kind;by_cases A:q.1.kind=0
 ·exact c5F n b S s q P i g h w j l m t x y u v r f c d o a A
 by_cases B:q.1.kind=1
 ·exact c5H n b S s q P i g h w j l m t x y u v r f c d o a B
 by_cases C:q.1.kind=2
 ·exact c5J n b S s q P i g h w j l m t x y u v r f c d o a C
 by_cases D:q.1.kind=3
 ·exact c5E n z b S s q P i g h w j l m t x y u v r f c d o a D
 ·exact c5G n z b S s q P i g h w j l m t x y u v r f c d o a (by omega)
theorem b5X{n:Nat}{w:World}{P:Nat→Prop}{v:Value}{l:List (a0C×List (RT n)×List (RT n))}(h:a63 (fun cs q=>a5I (a0l n w P) w P cs q) w P v l):
  ∃b g a,v= .slice b l.length a∧∀i,∀hi:i<l.length,b=some (a__ g 0)∧P g∧∃cs,a5I (a0l n w P) w P cs l[i]∧∀j,j<8→w.cell? (a__ g (i*8+j))=cs[j]? :=by
 obtain⟨b,g,a,d,e⟩:=b0P h;refine⟨b,g,a,d,fun i hi=> ?_⟩;obtain⟨c,_,f⟩:=e i hi;obtain⟨m,_,k,_⟩:=h;exact⟨c,k g (by rw[d,c];rfl),f⟩
theorem c0q:a58 0:=by
 intro b S s l P v w o m n p f h q j;obtain⟨d,a,rfl⟩:∃d a,v= .slice d 0 a:=by
  rcases Joins.ownsRow_forms h.1 with⟨rfl,_⟩|⟨g,a,rfl⟩<;>exact⟨_,_,rfl⟩
 clear h;show Calls _ _ _ _ fun e c=>e= .returned (.tuple #[])∧a0y b S w c s
 have i:=h__ f;clear f n p o m;go_enter func68,ntmps68;go_wp2_with fail;go_loopw [8] (fun x c=>x=i_ 0∧c=w) (fun _ _=>0);case atStart=>exact⟨rfl,rfl⟩
 case round=>
  obtain⟨rfl,k⟩:=hrel;rw[k];go_wp2_with fail;go_end0;exact⟨rfl,a0y.still i.out (g_ _ _)⟩
theorem c33{α:Type}(a:SR→List α→SR)(s:SR)(q:a0C×List α×List α)(r:List (a0C×List α×List α)):doL a s (q::r)=doL a (doT a s q) r:=rfl
theorem c0p(n:Nat)(ih:a58 n)(b:Nat)(S:Nat→Prop)(s:SR)(l:List (a0C×List (RT n)×List (RT n)))(P:Nat→Prop)(v:Value)(w:World)(hl:l.length≤1000)(Ab:∀q∈l,a1j q.1∧a0v n q.2.1∧a0v n q.2.2)(Aa:∀q∈l,(∀p∈q.1.parts,a2q p)∧a05 n q.2.1∧a05 n q.2.2)(hs:a1h s)
  (hw:s.2.length+a48 (a0z n) l≤100000) (hS:a0E w b S s) (hv:a63 (fun cs q=>a5I (a0l n w P) w P cs q) w P v l) (hP:∀k,P k→k<b) (U:∀k,S k→b<k):
  Calls prog 68 #[.pointer (some (a__ b 0)),v] w fun e w'=>e= .returned (.tuple #[])∧a0y b S w w' (doL (doF n) s l):=by
 obtain⟨ao,m,Ay,rfl,f⟩:=b5X hv;have Z:=hS.lt;have Aj:=h__ Ab;have Ai:=h__ Aa;have HC:=h__ f;have IH:=h__ ih;have An:=h__ hs;have N:Hid _:=a0y.still hS (g_ _ _);have Ao:=h__ hw;have I:=h__ hP;have J:=h__ U;generalize hR:doL (doF n) s l=R at*;have HR:=h__ hR;clear f Ab Aa ih hR hv hs hw hS hP U;go_enter func68,ntmps68;go_wp2_with fail;go_loopw [8] (fun x w'=>∃(k:Nat) (t:SR),x=i_ k∧k≤l.length∧Hid (a1h t)∧Hid (t.2.length+a48 (a0z n) (l.drop k)≤100000)∧Hid (a0y b S w w' t)∧Hid (doL (doF n) t (l.drop k)=R)) (fun x _=>l.length-(intOf x).toNat);case atStart=>exact⟨0,s,rfl,by omega,An,Ao,N,HR⟩
 case round=>
  obtain⟨k,t,rfl,hk,M,Ap,a,HL⟩:=hrel;by_cases r:k<l.length
  ·have tk:decide ((k:Int)<(l.length:Int))=true:=by simp;omega
   obtain⟨e0,AA,cs,AB,V⟩:=HC.out k r;obtain⟨H,F,G⟩:=Aj.out l[k] (P_ r);obtain⟨E,C,D⟩:=Ai.out l[k] (P_ r);have c:=HL.out;have B:=Ap.out;rw[u_ r,c33]at c;rw[u_ r,a6p]at B;have o:Below b w wr:=a.out.onto.below Z J.out;generalize hq:l[k]=q at*;obtain⟨ve,v1,v2,X,y,z,A⟩:=AB;subst X;obtain⟨ae,ne,ce,Ag⟩:∃aa nn cc,ve= .slice aa nn cc:=by
    rcases Joins.ownsRow_forms y.1 with⟨rfl,_⟩|⟨g,Ay,rfl⟩<;>exact⟨_,_,_,rfl⟩
   obtain⟨a1,n1,c1,Ae⟩:=a0h z;obtain⟨a2,n2,c2,Af⟩:=a0h A;have Az:ve= .slice ae ne ce∧v1= .slice a1 n1 c1∧v2= .slice a2 n2 c2:=⟨Ag,Ae,Af⟩
   clear Ag Ae Af;obtain⟨rfl,rfl,rfl⟩:=Az;have Y:m<b:=I.out m AA;have d:∀j,j<8→wr.cell? (a__ m (k*8+j))=(a45 q.1++ [.slice ae ne ce,.slice a1 n1 c1,.slice a2 n2 c2])[j]? :=fun j hj=>(o.cell (p:=(a__ m (k*8+j))) Y).trans (V j hj)
   have d0:wr.cell? (a__ m (k*8))=some (i_ q.1.kind):=d 0 (by omega);have d1:wr.cell? (a__ m (k*8+1))=some (i_ q.1.place):=d 1 (by omega);have d2:wr.cell? (a__ m (k*8+2))=some (i_ q.1.name):=d 2 (by omega);have d3:wr.cell? (a__ m (k*8+3))=some (i_ q.1.label):=d 3 (by omega);have d4:wr.cell? (a__ m (k*8+4))=some (i_ q.1.count):=d 4 (by omega);have d5:wr.cell? (a__ m (k*8+5))=some (.slice ae ne ce):=d 5 (by omega);have d6:wr.cell? (a__ m (k*8+6))=some (.slice a1 n1 c1):=d 6 (by omega);have d7:wr.cell? (a__ m (k*8+7))=some (.slice a2 n2 c2):=d 7 (by omega);subst e0;have hz:w.heap.size≤wr.heap.size:=a.out.onto.size;have AC:b<wr.heap.size:=a.out.state.lt;have Ax:=h__ H;have Av:=h__ F;have Aw:=h__ G;have Au:=h__ E;have As:=h__ C;have At:=h__ D;have Ak:Hid _:=b1G y I.out o;have Al:Hid _:=a2V z I.out o;have Am:Hid _:=a2V A I.out o;have L:Hid (∀i,(S i∨w.heap.size≤i)→b<i):=fun i hi=>by
    rcases hi with hi|hi
    ·exact J.out i hi
    ·omega
   have Ah:=h__ c;have Ac:b3c (fun l=>a05 n l∧a0v n l) (a0z n) (doF n):=fun s l hl hs=>b3l n l s hl.1 hl.2 hs
   have T:Hid _:=c1I Ac t q E ⟨C,F⟩ ⟨D,G⟩ H.kind M.out;have Ar:Hid (t.2.length+a1y (a0z n) q≤100000):=by show _≤_;omega
   have Aq:=h__ B;clear c B H F G E C D y z A V d hq o Ac;go_wp2_with fail;have h:B__ wr (wr.alloc (.cells #[i_ q.1.kind,i_ q.1.place,i_ q.1.name,i_ q.1.label,i_ q.1.count,.slice ae ne ce,.slice a1 n1 c1,.slice a2 n2 c2] 149)):=(g_ _ _).alloc (a_ _) _;refine(c5I n IH.out b _ t q P _ _ _ _ Ax.out Av.out Aw.out Au.out As.out At.out M.out Ar.out (a.out.state.keep h (a_ _)) (a0U Ak.out h) (a0g Al.out h) (a0g Am.out h) I.out L.out).mono ?_;rintro e w1 ⟨rfl,Ad⟩;have O:Hid _:=a.out.trans (Ad.pre h);clear Ad h a d0 d1 d2 d3 d4 d5 d6 d7;go_wp2_with fail;go_roundw;case rel=>exact⟨k+1,_,by go_num,by omega,T.out.1,by show _≤_;have h1:=T.out.2;have h2:=Aq.out;omega,O,Ah⟩
   case measure=>simp[intOf];omega
  ·have tk:decide ((k:Int)<(l.length:Int))=false:=by simp;omega
   have u:t=R:=by
    have:=HL.out;rw[C_ (by omega)]at this;exact this
   have HF:=h__ u;clear u;go_wp2_with fail;go_end0;rw[←HF.out];exact⟨rfl,a.out⟩
theorem b44:∀n,a58 n
 |0=>c0q
 |n+1=>fun b S s l P v w c f g i e h d a=>c0p n (b44 n) b S s l P v w c.1 c.2 f g i e h d a
def a1s(l:List Hd):Nat:=(l.filter (·.field)).length
def a2d:List Hd→List Int→List Vl→List Vl
 | [],_,vals=>vals
 |h::r,fs,vals=>if h.field then(match fs with| []=>a2d r [] vals|f::g=>a2d r g (vals.set h.name.toNat ⟨f,0⟩))else a2d r fs vals
theorem a7S(h:Hd)(r:List Hd):a1s (h::r)=(if h.field then 1 else 0)+a1s r:=by
 unfold a1s;cases e:h.field<;>simp[e];omega
theorem a9h(l:List Hd)(P:Nat→Prop)(v:Value)(w:World)(N:l.length≤1000)(A:a1k w P v l):
  Calls prog 66 #[v] w fun e w'=>e= .returned (i_ (a1s l:Nat))∧B__ w w':=by
 obtain⟨L,g,D,rfl,u,c⟩:=a7b A;clear A;have B:=h__ c;clear c;have H:a1s l≤l.length:=b_g _ _;have J:Hid (0+a1s l=a1s l):=by show _=_;omega
 generalize t:a1s l=R at*;have j:=h__ t;clear t;go_enter func66,ntmps66;go_wp2_with fail;go_loopw [3,8] (fun x y w'=>∃(k a:Nat),y=i_ k∧x=i_ a∧k≤l.length∧a≤k∧Hid (B__ w w')∧Hid (a+a1s (l.drop k)=R)) (fun _ y _=>l.length-(intOf y).toNat);case atStart=>exact⟨0,0,rfl,rfl,by omega,by omega,g_ _ _,by show _=_;have:=j.out;simpa using this⟩
 case round=>
  obtain⟨k,a,rfl,rfl,M,G,d,n⟩:=hrel;by_cases h:k<l.length
  ·have I:decide ((k:Int)<(l.length:Int))=true:=by simp;omega
   obtain⟨E,i,o,q,r,s⟩:=B.out k h;rw[←d.out.cell (p:=(a__ g (k*4))) i]at o;rw[←d.out.cell (p:=(a__ g (k*4+1))) i]at q;rw[←d.out.cell (p:=(a__ g (k*4+2))) i]at r;rw[←d.out.cell (p:=(a__ g (k*4+3))) i]at s;have O:w.heap.size≤wr.heap.size:=d.out.size;have b:=n.out;rw[u_ h,a7S]at b;generalize z:l[k]=p at*;obtain⟨F,U,T,S⟩:=p;simp only at o q r s b;subst E;cases F
   ·have m:Hid (a+a1s (l.drop (k+1))=R):=by show _=_;simpa using b
    clear b z;go_wp2_with fail;go_roundw;case rel=>exact⟨k+1,a,by go_num,rfl,by omega,by omega,d.out.alloc (by omega) _,m⟩
    case measure=>simp[intOf];omega
   ·have m:Hid (a+1+a1s (l.drop (k+1))=R):=by show _=_;simp at b;omega
    clear b z;go_wp2_with fail;go_roundw;case rel=>exact⟨k+1,a+1,by go_num,by go_num,by omega,by omega,d.out.alloc (by omega) _,m⟩
    case measure=>simp[intOf];omega
  ·have I:decide ((k:Int)<(l.length:Int))=false:=by simp;omega
   have f:a=R:=by
    have:=n.out;rw[C_ (by omega)]at this;exact this
   have C:=h__ f;clear f;go_wp2_with fail;go_ret;exact⟨a0R (by rw[C.out]),d.out⟩
structure a6t(w:World)(P:Nat→Prop)(v:Value)(l:List Int):Prop where
 here:∃ao g cap,v= .slice ao l.length cap∧∀i,∀hi:i<l.length,ao=some ⟨g,0,none⟩∧P g∧w.cell? ⟨g,i,none⟩=some (.int .i64 l[i])
theorem a6t.frame{w w':World}{P Q:Nat→Prop}{v:Value}{l:List Int}(h:a6t w P v l)(n:∀k,P k→k<w.heap.size→Q k∧w'.heap[k]? =w.heap[k]?):a6t w' Q v l:=by
 obtain⟨f,g,d,o,j⟩:=h.here;refine⟨f,g,d,o,fun i m=> ?_⟩;obtain⟨a,b,c⟩:=j i m;have e:=r_ w _ c;obtain⟨p,q⟩:=n g b e;exact⟨a,p,(e_ (a:=(a__ g i)) q).trans c⟩
theorem a0y.later{b:Nat}{S:Nat→Prop}{w w1 a:World}{s:SR}(h:a0y b S w w1 s)(k:B__ w1 a):a0y b S w a s:=
 ⟨h.state.keep k (a_ _),h.onto.trans (Onto.of_below k)⟩
theorem a69{h:Hd}{r:List Hd}{fs:List Int}{a:List Vl}(b:h.field=false):a2d (h::r) fs a=a2d r fs a:=by
 conv=>lhs;unfold a2d
 rw[f_ (by simp[b])]
theorem b0p{h:Hd}{r:List Hd}{a:List Vl} :a2d (h::r) [] a=a2d r [] a:=by
 cases b:h.field
 ·exact a69 b
 ·conv=>lhs;unfold a2d
  rw[n_ b]
theorem a8x{h:Hd}{r:List Hd}{f:Int}{fs:List Int}{a:List Vl}(b:h.field=true):a2d (h::r) (f::fs) a=a2d r fs (a.set h.name.toNat ⟨f,0⟩):=by
 conv=>lhs;unfold a2d
 rw[n_ b]
theorem c2r{f:Int}(h: -9223372036854775808≤f∧f≤9223372036854775807):a0S ⟨f,0⟩:=⟨h,by simp,by simp⟩
theorem a7y:∀(b:List Hd) (fs:List Int) (a:List Vl),(∀x∈fs,-9223372036854775808≤x∧x≤9223372036854775807)→a.length=26→(∀v∈a,a0S v)→(a2d b fs a).length=26∧∀v∈a2d b fs a,a0S v
 | [],fs,a,_,hl,ho=>⟨hl,ho⟩
 |h::r,fs,a,hf,hl,ho=>by
  cases e:h.field
  ·rw[a69 e];exact a7y r fs a hf hl ho
  ·cases fs with
   |nil=>rw[b0p];exact a7y r [] a hf hl ho
   |cons f g=>
    rw[a8x e];have k:=a1h.set (s:=(a,[])) ⟨hl,ho⟩ (c2r (hf f (by simp))) h.name.toNat [];exact a7y r g _ (fun x c=>hf x (by simp[c])) k.len k.ok
theorem b4L(b:Nat)(S P:Nat→Prop)(z:List Hd)(fs:List Int)(s:SR)(vh vf:Value)(w:World)(hl:z.length≤1000)(Ay:fs.length≤1000)(Ae:∀x∈fs,-9223372036854775808≤x∧x≤9223372036854775807)(Ah:∀h∈z,0≤h.name∧h.name<26)(Ai:a1h s)(hS:a0E w b S s)(hv:a1k w P vh z)(hf:a6t w P vf fs)(hP:∀k,P k→k<b)(Ac:∀k,S k→b<k):
  Calls prog 67 #[.pointer (some (a__ b 0)),vh,vf] w fun e w'=>e= .returned (.tuple #[])∧a0y b S w w' (a2d z fs s.1,s.2):=by
 have Af:=hS.lt;obtain⟨ao,g,Ax,rfl,Aw,E⟩:=a7b hv;have HC:Hid (∀i,∀hi:i<z.length,ao=some (a__ g 0)∧g<b∧w.cell? (a__ g (i*4))=some (.bool z[i].field)∧w.cell? (a__ g (i*4+1))=some (i_ z[i].place)∧w.cell? (a__ g (i*4+2))=some (i_ z[i].name)∧w.cell? (a__ g (i*4+3))=some (i_ z[i].label)):=by
  intro i hi;obtain⟨I,_,c⟩:=E i hi;exact⟨I,hP g (hv.2 g (by rw[I];rfl)),c⟩
 obtain⟨af,M,Av,rfl,Ad⟩:=hf.here;have HF:Hid (∀i,∀hi:i<fs.length,af=some (a__ M 0)∧M<b∧w.cell? (a__ M i)=some (i_ fs[i])):=by
  intro i hi;obtain⟨I,e1,c⟩:=Ad i hi;exact⟨I,hP M e1,c⟩
 have Am:=h__ Ah;have Al:=h__ Ae;have Ab:Hid (a0y b S w w s):=a0y.still hS (g_ _ _);have Ao:Hid (a1h s):=Ai;have An:Hid (∀k,S k→b<k):=Ac;generalize hR:a2d z fs s.1=R at*;have HR:Hid (a2d z fs s.1=R):=hR;obtain⟨a1x,A⟩:=s;simp only at*;clear E hv hf Ad Ah Ae Ai hS hR Ac hP;go_enter func67,ntmps67;go_wp2_with fail;go_loopw [6,11] (fun x y w'=>∃(k j:Nat) (r:List Vl),y=i_ k∧x=i_ j∧k≤z.length∧j≤fs.length∧Hid (a1h (r,A))∧Hid (a0y b S w w' (r,A))∧Hid (a2d (z.drop k) (fs.drop j) r=R)) (fun _ y _=>z.length-(intOf y).toNat);case atStart=>exact⟨0,0,a1x,rfl,rfl,by omega,by omega,Ao,Ab,HR⟩
 case round=>
  obtain⟨k,j,r,rfl,rfl,hk,hj,H,B,HL⟩:=hrel;by_cases U:k<z.length
  ·have tk:decide ((k:Int)<(z.length:Int))=true:=by simp;omega
   obtain⟨I,J,c0,c1,c2,c3⟩:=HC.out k U;obtain⟨V,X⟩:=Am.out z[k] (P_ U);have C:Below b w wr:=B.out.onto.below Af An.out;rw[←C.cell (p:=(a__ g (k*4))) J]at c0;rw[←C.cell (p:=(a__ g (k*4+1))) J]at c1;rw[←C.cell (p:=(a__ g (k*4+2))) J]at c2;rw[←C.cell (p:=(a__ g (k*4+3))) J]at c3;have hz:w.heap.size≤wr.heap.size:=B.out.onto.size;have Az:b<wr.heap.size:=B.out.state.lt;have m:=HL.out;rw[u_ U]at m;generalize hp:z[k]=p at*;subst I;cases D:p.field
   ·rw[a69 D]at m;obtain⟨fd,pl,Z,Y⟩:=p;simp only at c0 c1 c2 c3 D V X;subst D;have G:=h__ m;have t:Hid (a0y b S w (wr.alloc (.cells #[F__,i_ pl,i_ Z,i_ Y] 146)) (r,A)):=B.out.later ((g_ _ _).alloc (a_ _) _);clear m hp C;go_wp2_with fail;go_roundw;case rel=>exact⟨k+1,j,r,by go_num,rfl,by omega,by omega,H,t,G⟩
    case measure=>simp[intOf];omega
   ·by_cases O:j<fs.length
    ·rw[u_ O,a8x D]at m;have tj:decide ((j:Int)<(fs.length:Int))=true:=by simp;omega
     obtain⟨f0,Au,d0⟩:=HF.out j O;rw[←C.cell (p:=(a__ M j)) Au]at d0;have At:=Al.out fs[j] (P_ O);generalize As:fs[j]=f at*;subst f0;obtain⟨fd,pl,Z,Y⟩:=p;simp only at c0 c1 c2 c3 D V X m;subst D;obtain⟨F,rfl⟩:∃F:Nat,Z=F:=⟨Z.toNat,by omega⟩
     rw[W_]at m;have Ag:F<26:=by omega
     have G:=h__ m;have t:Hid (a0y b S w (wr.alloc (.cells #[T__,i_ pl,i_ F,i_ Y] 146)) (r,A)):=B.out.later ((g_ _ _).alloc (a_ _) _);have Aa:Hid (a1h (r.set F ⟨f,0⟩,A)):=a1h.set H.out (c2r At) F A;clear m hp C As;go_upto_region 5 with fail;generalize hW:wr.alloc (.cells #[T__,i_ pl,i_ F,i_ Y] 146)=W at*;have k2:W.cell? (a__ wr.heap.size 2)=some (i_ F):=by rw[←hW];simp[go_sem]
     have N:B__ wr W:=by rw[←hW];exact(g_ _ _).alloc (a_ _) _
     have k0:W.cell? (a__ M j)=some (i_ f):=(N.cell (p:=(a__ M j)) (by simp only;omega)).trans d0;have T:b<W.heap.size:=by have:=N.size;omega
     obtain⟨I,e1⟩:=t.out.state.cell F Ag;have Aq:=t.out.state.fz;simp only at I e1;clear hW N c0 c1 c2 c3 d0 B
     go_cut [11]from 11 to 36 (fun y wx=>y=i_ k∧a0y b S w wx (r.set F ⟨f,0⟩,A))
     case first=>
      go_region_with (go_at_call 100;refine(a1a _ _).mono ?_;rintro e w1 ⟨rfl,Ar⟩;have u:=a2i Ar;have s0:=(u.cell (p:=(a__ b (F*2))) T).trans I;have s1:=(u.cell (p:=(a__ b (F*2+1))) T).trans e1;have sf:∀o,w1.frozen? (a__ b o)=false:=(fun o=>(u.frozen (p:=(a__ b o)) T).trans (Aq o));have k2:=(u.cell (p:=(a__ wr.heap.size 2)) (r_ W _ k2)).trans k2);all_goals (go_wp2_with fail;go_meet)
      all_goals exact⟨rfl,((t.out.later u).state.set H.out.len F Ag ⟨f,0⟩),((t.out.later u).onto.setCell _ _).setCell _ _⟩
     case rest=>
      obtain⟨rfl,Aj⟩:=hcut;have Ap:Hid (a0y b S w wc (r.set F ⟨f,0⟩,A)):=Aj;clear Aj;go_wp2_with fail;go_roundw;case rel=>exact⟨k+1,j+1,_,by go_num,by go_num,by omega,by omega,Aa,Ap,G⟩
      case measure=>simp[intOf];omega
    ·rw[C_ (l:=fs) (by omega),b0p]at m;have tj:decide ((j:Int)<(fs.length:Int))=false:=by simp;omega
     obtain⟨fd,pl,Z,Y⟩:=p;simp only at c0 c1 c2 c3 D V X;subst D;have G:Hid (a2d (z.drop (k+1)) (fs.drop j) r=R):=by show _=_;rw[C_ (l:=fs) (by omega)];exact m
     have t:Hid (a0y b S w (wr.alloc (.cells #[T__,i_ pl,i_ Z,i_ Y] 146)) (r,A)):=B.out.later ((g_ _ _).alloc (a_ _) _);clear m hp C;go_wp2_with fail;go_roundw;case rel=>exact⟨k+1,j,r,by go_num,rfl,by omega,by omega,H,t,G⟩
     case measure=>simp[intOf];omega
  ·have tk:decide ((k:Int)<(z.length:Int))=false:=by simp;omega
   have L:r=R:=by
    have:=HL.out;rw[C_ (by omega)]at this;exact this
   have Ak:=h__ L;clear L;go_wp2_with fail;go_end0;rw[←Ak.out];exact⟨rfl,B.out⟩
def a1x:List Vl:=List.replicate 26 vl0
def a1L(t:List UInt8)(fs:List Int):Int×List Nt:=
 if(a0s t).1≠0 then((a0s t).1,[])
 else if fs.length≠a1s (a0t t).2 then(6,[])
 else(0,(doF 9 (a2d (a0t t).2 fs a1x,[]) (a0n t).2).2)
theorem a5P{t:List UInt8}(h:(a0s t).1=0):t.length≤400∧(a0n t).1.bad=false∧a1N [] (a0t t).2=none∧¬5000<a0z 9 (a0n t).2∧a28 (a13 (a0t t).2 (a0n t).2) 9 0 (a0n t).2=none:=by
 unfold a0s at h
 split at h
 ·exact absurd h (by simp)
 rename_i e
 split at h
 ·exact absurd h (by simp)
 rename_i a
 split at h
 ·exact absurd h (by simp)
 rename_i b
 split at h
 ·exact absurd h (by simp)
 rename_i c
 split at h
 ·exact absurd h (by simp)
 rename_i d;exact⟨by omega,by simpa using a,b,c,d⟩
theorem b54(s:ByteArray)(w:World)(m:s.size≤maxLen)(a:s.size≤400→(a0n s.data.toList).1.bad=false→a31 s.data.toList)(f:(a0s s.data.toList).1=0):
  Calls prog 26 #[.string s] w fun e w'=>∃c d,e= .returned (.agg (a5X c d (a13 (a0t s.data.toList).2 (a0n s.data.toList).2)).toArray)∧B__ w w'∧a1k w' (fun k=>w.heap.size≤k) c (a0t s.data.toList).2∧a0l 9 w' (fun k=>w.heap.size≤k) d (a0n s.data.toList).2:=by
 obtain⟨l,b,g,h,i⟩:=a5P f;have j:s.data.toList.length=s.size:=by simp
 exact b9W s w (by omega) (a (by omega) b) b g h i
theorem b9a(s:ByteArray)(G:Value)(w:World)(e:Int)(D:s.size≤maxLen)(p:s.size≤400→(a0n s.data.toList).1.bad=false→a31 s.data.toList)(B:(a0s s.data.toList).1=e)(A:e≠0):
  Calls prog 41 #[.string s,G] w fun x w'=>x= .returned (.tuple #[.slice none 0 0,i_ e])∧B__ w w':=by
 have y:=h__ p;have C:=h__ B;clear p B;have J:(e !=0)=true:=by simpa using A
 go_enter func41,ntmps41;go_upto_region 2 with(first|(go_at_call 26;refine(b0W s _ D y.out).mono ?_;rintro L m ⟨t,rfl,r,o⟩;have j:=h__ r;clear r)|(refine a_k rfl 71 (.tmp 6) (.tmp 9) rfl m.heap.size t.toArray rfl rfl 71 (e30 0 0).toArray (by exact a3y m) (by rw[a1Y,j.out.size]) (by rw[j.out.size];rfl) j.out.one ?_;rw[World.setRow_alloc_new];simp only[Act.put]));have E:=o.size;have l:B__ w (m.alloc (.cells t.toArray 71)):=o.alloc (by omega) _;have F:(m.alloc (.cells t.toArray 71)).cell? (a__ m.heap.size 0)=some (i_ (a0s s.data.toList).1):=by rw[F_ _ _ _ _ _ _ (R_ m _)];simpa using j.out.cell0
 rw[C.out]at F;generalize z:m.heap.size=I at*;generalize m.alloc (.cells t.toArray 71)=H at*;have u:=h__ l;clear l o z;go_wp2_with fail;go_region;all_goals go_wp2_with fail
 all_goals go_ret2
 all_goals exact⟨rfl,u.out.drew⟩
theorem a4w{w:World}{b a c n:Nat}{e:TypeId}{v:Value}{xs:List Value}(h:w.ownsRow b e c v n xs)(m:a≤b):w.ownsRow a e c v n xs:=by
 refine⟨h.1,?_⟩;rcases h.2 with i|⟨g,d,f,j,l,k⟩
 ·exact .inl i
 ·exact .inr ⟨g,d,f,j,by omega,k⟩
def b0U:List Value:=a0N a1x++ [.slice none 0 0]
theorem b8f: #[i_ 0,i_ 0,i_ 0,i_ 0,i_ 0,i_ 0,i_ 0,i_ 0,i_ 0,i_ 0,i_ 0,i_ 0,i_ 0,i_ 0,i_ 0,i_ 0,i_ 0,i_ 0,i_ 0,i_ 0,i_ 0,i_ 0,i_ 0,i_ 0,i_ 0,i_ 0,i_ 0,i_ 0,i_ 0,i_ 0,i_ 0,i_ 0,i_ 0,i_ 0,i_ 0,i_ 0,i_ 0,i_ 0,i_ 0,i_ 0,i_ 0,i_ 0,i_ 0,i_ 0,i_ 0,i_ 0,i_ 0,i_ 0,i_ 0,i_ 0,i_ 0,i_ 0,.slice none 0 0]=b0U.toArray:=rfl
theorem b51(w:World)(t:TypeId):a0E (w.alloc (.cells b0U.toArray t)) w.heap.size (fun _=>False) (a1x,[]):=by
 have b:=R_ w (.cells b0U.toArray t);refine⟨fun k a=> ?_,⟨.slice none 0 0,?_,E_ ..,fun k a=>by cases a⟩,fun o=>by unfold World.frozen?;rw[b];simp⟩
 ·obtain⟨c,d⟩:=a6o a1x k (by unfold a1x;simpa using a);have e:a1x.getD k vl0=a1x[k]'(by unfold a1x;simpa using a):=by rw[t_,s_ (by unfold a1x;simpa using a)];rfl
  have f:(a0N a1x).length=52:=by rw[a3j];rfl
  simp only;rw[e];constructor
  ·rw[F_ _ _ _ _ _ _ b];unfold b0U;rw[a_h,S_ (by omega)];exact c
  ·rw[F_ _ _ _ _ _ _ b];unfold b0U;rw[a_h,S_ (by omega)];exact d
 ·rw[F_ _ _ _ _ _ _ b];rfl
theorem c04(s:ByteArray)(fs:List Int)(vf:Value)(w:World)(P:Nat→Prop)(hs:s.size≤maxLen)(Ad:s.size≤400→(a0n s.data.toList).1.bad=false→a31 s.data.toList)(AH:(a0s s.data.toList).1=0→a05 9 (a0n s.data.toList).2)(h0:(a0s s.data.toList).1=0)(hf:a6t w P vf fs)(hP:∀k,P k→k<w.heap.size)(AX:fs.length≤maxLen)(AF:∀x∈fs,-9223372036854775808≤x∧x≤9223372036854775807):
  Calls prog 41 #[.string s,vf] w fun x w'=>(∃vn,x= .returned (.tuple #[vn,i_ (a1L s.data.toList fs).1])∧((a1L s.data.toList fs).1≠0→vn= .slice none 0 0)∧w'.ownsRow w.heap.size 61 5 vn (a1L s.data.toList fs).2.length (a0B (a1L s.data.toList fs).2))∧B__ w w':=by
 obtain⟨h1,h2,h3,h4,h5⟩:=a5P h0;have A8:s.data.toList.length=s.size:=by simp
 have AI:=Ad (by omega) h2;have C:=AH h0;have HT:Hid _:=fun w=>b54 s w hs Ad h0
 have V:a1L s.data.toList fs=if fs.length≠a1s (a0t s.data.toList).2 then(6,[])else(0,(doF 9 (a2d (a0t s.data.toList).2 fs a1x,[]) (a0n s.data.toList).2).2):=by unfold a1L;rw[f_ (by simpa using h0)]
 generalize AT:a1L s.data.toList fs=RP at*;generalize Av:a0t s.data.toList=H at*;generalize AA:a0n s.data.toList=R at*;unfold maxLen at AX;obtain⟨F,o,m,Ai⟩:=AI;rw[Av]at F o;rw[AA]at m Ai;generalize Aw:a13 H.2 R.2=Lb at*;have Ax:Lb.length=26:=by rw[←Aw];exact(a5m F m).len
 have A7:a1s H.2≤1000:=K_ (b_g _ _) o;obtain⟨af,gf,At,A3,AW⟩:=hf.here;have HF:Hid (a6t w P vf fs):=hf;subst A3;have An:=h__ F;have AR:Hid (a0v 9 R.2):=m;have AN:Hid (a05 9 R.2):=C;have A5:Hid (∀k,P k→k<w.heap.size):=hP;have Am:=h__ AF;have t:=h__ V;clear h0 h1 h2 h3 h5 Ad AH AW hf hP F m C AF V AT Av AA Aw hs;go_enter func41,ntmps41;go_upto_region 2 with(first|(go_at_call 26;refine(HT.out _).mono ?_;rintro x1 z ⟨vh,vr,rfl,Ab,Ag,Ah⟩;obtain⟨ah,nh,ch,AJ⟩:∃aa nn cc,vh= .slice aa nn cc:=(by rcases Joins.ownsRow_forms Ag.1 with⟨rfl,_⟩|⟨g,A6,rfl⟩<;>exact⟨_,_,_,rfl⟩);obtain⟨N,X,O,AK⟩:=a0h Ah;subst AJ;subst AK)|(refine a_k rfl 71 (.tmp 6) (.tmp 9) rfl z.heap.size (a5X (.slice ah nh ch) (.slice N X O) Lb).toArray rfl rfl 71 (e30 0 0).toArray (by exact a3y z) (by rw[a1Y,a5Y _ _ _ Ax]) (by rw[a5Y _ _ _ Ax];rfl) (b2X _ _ _ _ _ _ _) ?_;rw[World.setRow_alloc_new];simp only[Act.put]));have A1:=Ab.size;generalize hW:z.alloc (.cells (a5X (.slice ah nh ch) (.slice N X O) Lb).toArray 71)=A;have E:B__ z A:=by rw[←hW];exact(g_ _ _).alloc (a_ _) _
 have AU:A.heap.size=z.heap.size+1:=by rw[←hW];simp
 have q0:A.cell? (a__ z.heap.size 0)=some (i_ 0):=by rw[←hW,F_ _ _ _ _ _ _ (R_ z _)];rfl
 have q2:A.cell? (a__ z.heap.size 2)=some (.slice ah nh ch):=by rw[←hW,F_ _ _ _ _ _ _ (R_ z _)];rfl
 have q3:A.cell? (a__ z.heap.size 3)=some (.slice N X O):=by rw[←hW,F_ _ _ _ _ _ _ (R_ z _)];rfl
 have D:Hid (a1k A (fun k=>w.heap.size≤k) (.slice ah nh ch) H.2):=a0Y Ag (fun k j G=>⟨j,E.block k G⟩);have Ar:Hid (a0l 9 A (fun k=>w.heap.size≤k) (.slice N X O) R.2):=a1A (fun k j G=>⟨j,E.block k G⟩) 9 _ _ Ah;have y:Hid (B__ w A):=Ab.trans (E.mono (by omega));generalize AZ:z.heap.size=S at*;have AG:S<A.heap.size:=by omega
 clear Ag Ah E hW Ab AZ;by_cases I:fs.length=a1s H.2
 ·have tn:((fs.length:Int) !=(a1s H.2:Int))=false:=by simp[I]
  have AE:fs.length≤1000:=by omega
  have T:=t.out;rw[f_ (by simpa using I)]at T;generalize U:doF 9 (a2d H.2 fs a1x,[]) R.2=u at*;have Al:Hid (doF 9 (a2d H.2 fs a1x,[]) R.2=u):=U;have Ay:RP.1=0:=by rw[T]
  have Az:RP.2=u.2:=by rw[T]
  have Ao:Hid (RP.1=0):=Ay;have AO:Hid (RP.2=u.2):=Az;clear U T Ay Az t I;go_upto_region 7 with(first|(go_at_call 66;refine(a9h H.2 _ _ _ o D.out).mono ?_;rintro x2 J ⟨rfl,B⟩));rw[b8f];have A2:=B.size;have AB:=b51 J 127;generalize Aa:J.alloc (.cells b0U.toArray 127)=r at*;have Au:B__ J r:=by rw[←Aa];exact(g_ _ _).alloc (a_ _) _
  have AC:r.heap.size=J.heap.size+1:=by rw[←Aa];simp
  have l:B__ A r:=B.trans (Au.mono (by omega));have r2:r.cell? (a__ S 2)=some (.slice ah nh ch):=(l.cell (p:=(a__ S 2)) AG).trans q2;have r3:r.cell? (a__ S 3)=some (.slice N X O):=(l.cell (p:=(a__ S 3)) AG).trans q3;have Aj:Hid (B__ w r):=y.out.trans (l.mono y.out.size);have L:Hid (a1k r (fun k=>k<J.heap.size) (.slice ah nh ch) H.2):=a0Y D.out (fun k j G=>⟨by omega,l.block k G⟩);have M:Hid (a0l 9 r (fun k=>k<J.heap.size) (.slice N X O) R.2):=a1A (fun k j G=>⟨by omega,l.block k G⟩) 9 _ _ Ar.out;have Ba:w.heap.size≤A.heap.size:=y.out.size;have Ak:Hid (a6t r (fun k=>k<J.heap.size) (.slice af fs.length At) fs):=HF.out.frame (fun k j G=>⟨by omega,Aj.out.block k G⟩);generalize AV:J.heap.size=b at*;have AD:b<r.heap.size:=by omega
  have AY:S<b:=by omega
  have A4:w.heap.size≤b:=by omega
  have Ap:Hid (a0E r b (fun _=>False) (a1x,[])):=AB;clear AB Aa Au l AC B AV q0 q2 q3 D Ar HF y A2 AU A1;have Y:Hid (a1h (a1x,[])):=⟨rfl,fun v hv=>by have:=a_G hv;rw[this];exact a99⟩
  have AQ:Hid (∀k,(False∨r.heap.size≤k)→b<k):=fun k j=>by rcases j with j|j;exact j.elim;omega
  have AM:Hid (∀h∈H.2,0≤h.name∧h.name<26):=fun h hh=>⟨(An.out h hh).1,(An.out h hh).2.1⟩
  have Ac:=a7y H.2 fs a1x Am.out Y.out.len Y.out.ok;have AL:Hid (a1h (a2d H.2 fs a1x,[])):=⟨Ac.1,Ac.2⟩
  clear Ac;have AS:Hid (0+a0z 9 R.2≤100000):=by show _≤_;omega
  go_upto_region 8 with(first|(go_at_call 67;refine(b4L b (fun _=>False) (fun k=>k<b) H.2 fs (a1x,[]) _ _ _ o AE Am.out AM.out Y.out Ap.out L.out Ak.out (fun k j=>j) (fun k j=>j.elim)).mono ?_;rintro x4 w4 ⟨rfl,Ae⟩));have Z:Below b r w4:=Ae.onto.below AD (fun k j=>j.elim);have r4:w4.cell? (a__ S 3)=some (.slice N X O):=(Z.cell (p:=(a__ S 3)) AY).trans r3;have As:Hid (a0l 9 w4 (fun k=>k<b) (.slice N X O) R.2):=a2V M.out (fun k j=>j) Z;have Aq:Hid (a0y b (fun _=>False) r w4 (a2d H.2 fs a1x,[])):=Ae;clear Z Ae r2 r3 M L Ak Ap;go_wp2_with (first|(go_at_call 68;refine(b44 9 b _ (a2d H.2 fs a1x,[]) R.2 (fun k=>k<b) _ _ AR.out AN.out AL.out AS.out Aq.out.state As.out (fun k j=>j) AQ.out).mono ?_;rw[Al.out];rintro x5 w5 ⟨rfl,Af⟩;obtain⟨vn,A9,A0,_⟩:=Af.state.row;have AP:Hid (a0y b (fun _=>False) r w5 u):=Aq.out.trans Af;clear Af));go_ret2;refine⟨⟨vn,?_,fun hx=>absurd Ao.out hx,?_⟩,Aj.out.trans ((AP.out.onto.below AD (fun k j=>j.elim)).mono A4)⟩
  ·rw[Ao.out];rfl
  ·rw[AO.out];exact a4w (show w5.ownsRow (b+1) 61 5 vn u.2.length (a0B u.2)from A0) (by omega)
 ·have tn:((fs.length:Int) !=(a1s H.2:Int))=true:=by simp;omega
  have T:=t.out;rw[n_ (by simpa using I)]at T;have HR:Hid (RP=(6,[])):=T;clear T t;go_wp2_with (first|(go_at_call 66;refine(a9h H.2 _ _ _ o D.out).mono ?_;rintro x2 J ⟨rfl,B⟩));go_ret2;rw[HR.out];exact⟨⟨_,rfl,fun _=>rfl,E_ ..⟩,y.out.trans (B.mono y.out.size)⟩
def a3w(w:World)(r:Int×List Nt)(x:Ending)(w':World):Prop:=
 (∃a,x= .returned (.tuple #[a,.int .i64 r.1])∧(r.1≠0→a= .slice none 0 0)∧w'.ownsRow w.heap.size 61 5 a r.2.length (a0B r.2))∧Below w.heap.size w w'
theorem b2x(s:ByteArray)(fs:List Int)(b:Value)(w:World)(P:Nat→Prop)(h:s.size≤maxLen)(a:s.size≤400→(a0n s.data.toList).1.bad=false→a31 s.data.toList)(g:(a0s s.data.toList).1=0→a05 9 (a0n s.data.toList).2)(l:a6t w P b fs)(i:∀k,P k→k<w.heap.size)(d:fs.length≤maxLen)(f:∀x∈fs,-9223372036854775808≤x∧x≤9223372036854775807):
  Calls prog 41 #[.string s,b] w (a3w w (a1L s.data.toList fs)):=by
 by_cases c:(a0s s.data.toList).1=0
 ·exact c04 s fs b w P h a g c l i d f
 ·refine(b9a s b w _ h a rfl c).mono ?_;rintro e m ⟨rfl,j⟩;have:a1L s.data.toList fs=((a0s s.data.toList).1,[]):=by unfold a1L;rw[n_ c]
  rw[this];exact⟨⟨_,rfl,fun _=>rfl,E_ ..⟩,j⟩
theorem b6y(s:ByteArray)(fs:List Int)(o:Value)(w:World)(P:Nat→Prop)(B:s.size≤maxLen)(m:s.size≤400→(a0n s.data.toList).1.bad=false→a31 s.data.toList)(l:(a0s s.data.toList).1=0→a05 9 (a0n s.data.toList).2)(t:a6t w P o fs)(r:∀k,P k→k<w.heap.size)(p:fs.length≤maxLen)(j:∀x∈fs,-9223372036854775808≤x∧x≤9223372036854775807):
  Calls prog 18 #[.string s,o] w (a3w w (a1L s.data.toList fs)):=by
 have H:Calls prog 41 #[.string s,o] w (a3w w (a1L s.data.toList fs)):=b2x s fs o w P B m l t r p j;generalize a1L s.data.toList fs=RP at*;have u:Hid (Calls prog 41 #[.string s,o] w (a3w w RP)):=H;clear H m l t r j;go_enter func18,ntmps18;go_wp2_with fail;refine u.out.mono ?_;rintro e D ⟨⟨C,rfl,y,z⟩,A⟩;go_wp2_with fail;go_ret2;exact⟨⟨C,rfl,y,z⟩,A⟩
theorem b9H(t:List UInt8):∀(n:Nat) (r:Rd) (v B:Int),0≤v→v<B→0≤(Rd.numF t n r v).2∧(Rd.numF t n r v).2<B*10^n
 |0,r,v,B,h0,h1=>⟨h0,by simpa[Rd.numF]using h1⟩
 |n+1,r,v,B,h0,h1=>by
  have b:(0:Int)<10^n:=Int.pow_pos (by decide);have e:B*10^(n+1)=B*10*10^n:=by rw[Int.pow_succ,Int.mul_assoc,Int.mul_comm (10^n) 10]
  rw[e];unfold Rd.numF
  split
  ·have d:=b0l t r;exact b9H t n _ _ (B*10) (by omega) (by omega)
  ·refine⟨h0,?_⟩;have a:B*10*1≤B*10*10^n:=Int.mul_le_mul_of_nonneg_left (by omega) (by omega);simp only;omega
theorem c2t(t:List UInt8)(r:Rd): -9223372036854775808≤(r.number t).2∧(r.number t).2≤9223372036854775807:=by
 have d:=b0l t r;have h:=b9H t 17 (r.takeOne t 48 57).1 (r.takeOne t 48 57).2 10 d.1 (by omega);unfold Rd.number;have e:(10:Int)*10^17=1000000000000000000:=by decide
 rw[e]at h;omega
theorem c08(t:List UInt8)(r:Rd)(a b:UInt8): -9223372036854775808≤(r.takeOne t a b).2∧(r.takeOne t a b).2≤9223372036854775807:=by
 unfold Rd.takeOne
 split
 ·have c:=(t.getD r.pos 0).toNat_lt;have d:=a.toNat_lt;constructor<;>simp only<;>omega
 ·simp
def PN(x:RP):Prop:=∀p∈x.2,a2q p
theorem c2D{r b:Rd}{l m:List Pt}(h:PN (r,l))(k:∀p∈m,a2q p):PN (b,l++m):=by
 intro p a;rcases G_.mp a with e|e
 ·exact h p e
 ·exact k p e
theorem b1K{r d:Rd}{l:List Pt}(h:PN (r,l))(c:Int){v:Int}(b: -9223372036854775808≤v∧v≤9223372036854775807):PN (d,l++ [⟨c,v⟩]):=
 c2D h (by intro p a;simp at a;subst a;exact b)
theorem c2C{t:List UInt8}{a:RP→RP}(b:∀x,PN x→PN (a x)){x:RP}(h:PN x):PN (a3b t a x):=by
 unfold a3b
 split
 ·exact b1K h 1 (c2t t x.1)
 split
 ·exact b1K h 2 (c08 t x.1 97 122)
 split
 ·exact b _ h
 ·exact h
theorem b8w{t:List UInt8}{a:RP→RP}(b:∀x,PN x→PN (a x)){x:RP}(h:PN x):PN (a2C t a x):=by
 unfold a2C;have k:=c2C (t:=t) b (x:=((a01 t (t.length+1) x.1).1,x.2)) h;refine c2D (r:=(a3b t a ((a01 t (t.length+1) x.1).1,x.2)).1) k ?_;intro p c;have:=a_G c;subst this;exact⟨by decide,by decide⟩
theorem b7Q{t:List UInt8}{a:RP→RP}(b:∀x,PN x→PN (a x)):∀(n:Nat) (x:RP),PN x→PN (a47 t a n x)
 |0,x,h=>h
 |n+1,x,h=>by
  unfold a47;simp only
  split
  ·exact h
  ·refine b7Q b n _ ?_;exact b1K (r:=(a2C t a ((x.1.prodOper t).1,x.2)).1) (b8w b (x:=((x.1.prodOper t).1,x.2)) h) _ (by decide)
theorem b7S{t:List UInt8}{a:RP→RP}(b:∀x,PN x→PN (a x)){x:RP}(h:PN x):PN (a2Y t a x):=b7Q b _ _ (b8w b h)
theorem b9V{t:List UInt8}{a:RP→RP}(b:∀x,PN x→PN (a x)):∀(n:Nat) (x:RP),PN x→PN (a6s t a n x)
 |0,x,h=>h
 |n+1,x,h=>by
  unfold a6s;simp only
  split
  ·exact h
  ·refine b9V b n _ ?_;exact b1K (r:=(a2Y t a ((x.1.oper t 43 4 45 5).1,x.2)).1) (b7S b (x:=((x.1.oper t 43 4 45 5).1,x.2)) h) _ (by decide)
theorem b4J{t:List UInt8}{a:RP→RP}(b:∀x,PN x→PN (a x)){x:RP}(h:PN x):PN (a1E t a x):=b9V b _ _ (b7S b h)
theorem c5B{t:List UInt8}{a:RP→RP}(b:∀x,PN x→PN (a x)){x:RP}(h:PN x):PN (a6L t a x):=by
 unfold a6L;simp only
 split
 ·exact b4J b h
 ·exact b1K (r:=(a1E t a (((a1E t a x).1.oper t 60 9 61 10).1,(a1E t a x).2)).1) (b4J b (x:=(((a1E t a x).1.oper t 60 9 61 10).1,(a1E t a x).2)) (b4J b h)) _ (by decide)
theorem b9t(t:List UInt8):∀(n:Nat) (x:RP),PN x→PN (a5G t n x)
 |0,x,h=>h
 |n+1,x,h=>c5B (fun y a=>b9t t n y a) h
theorem a92(t:List UInt8)(r:Rd):∀p∈(a00 t r).2,a2q p:=by
 have h:PN (a5G t 10 (r,[])):=b9t t 10 (r,[]) (by intro p a;simp at a);unfold a00;exact h
theorem b72{α:Type}{t:List UInt8}{b:Rd→Rd×List α}{ok:List α→Prop}(a:ok [])(c:∀r,ok (b r).2)(r:Rd):(∀p∈(a3g t b r).2.1.parts,a2q p)∧ok (a3g t b r).2.2.1∧ok (a3g t b r).2.2.2:=by
 unfold a3g
 split
 ·exact⟨a92 t _,a,a⟩
 split
 ·exact⟨a92 t _,a,a⟩
 split
 ·exact⟨a92 t _,a,a⟩
 split
 ·simp only
  split
  ·exact⟨a92 t _,c _,c _⟩
  ·exact⟨a92 t _,c _,a⟩
 split
 ·exact⟨by intro p d;simp at d,c _,a⟩
 ·exact⟨by intro p d;simp[a0C.none]at d,a,a⟩
theorem b1Q{α:Type}{rule:Rd→Rd×α}{halt:Rd→Bool}{one:α→Prop}(b:∀r,one (rule r).2):∀(k:Nat) (r:Rd),∀q∈(a1m rule halt k r).2,one q
 |0,r=>by intro q a;simp[a1m]at a
 |k+1,r=>by
  unfold a1m
  split
  ·intro q a;simp at a
  ·intro q a;rcases X_.mp a with e|e
   ·rw[e];exact b r
   ·exact b1Q b k _ q e
theorem b7F:∀n,a05 n []
 |0=>trivial
 |n+1=>by intro q a;cases a
theorem b4W(t:List UInt8):∀(n:Nat) (r:Rd),a05 n (a08 t n r).2
 |0,r=>trivial
 |n+1,r=>by
  show a05 (n+1) (a4I t (α:=RT (n+1)) (fun r=>a3g t (a08 t n) r) r).2;unfold a4I;exact b1Q (α:=RT (n+1)) (one:=fun q:RT (n+1)=>(∀p∈(show a0C×List (RT n)×List (RT n)from q).1.parts,a2q p)∧a05 n (show a0C×List (RT n)×List (RT n)from q).2.1∧a05 n (show a0C×List (RT n)×List (RT n)from q).2.2) (fun r=>b72 (b7F n) (fun r=>b4W t n r) r) _ _
theorem a7h(t:List UInt8):a05 9 (a0n t).2:=by
 unfold a0n;exact b1Q (α:=RT 9) (one:=fun q:RT 9=>(∀p∈(show a0C×List (RT 8)×List (RT 8)from q).1.parts,a2q p)∧a05 8 (show a0C×List (RT 8)×List (RT 8)from q).2.1∧a05 8 (show a0C×List (RT 8)×List (RT 8)from q).2.2) (fun r=>b72 (b7F 8) (fun r=>b4W t 8 r) r) _ _
def a7K(f:SR→Option SR):Nat→SR→Option SR
 |0,s=>some s
 |n+1,s=>match f s with|some s'=>a7K f n s'|none=>none
def a3B(e:Rest)(v:Vl)(s:SR):List Vl:=if 0≤e.name then s.1.set e.name.toNat v else s.1
def a70(b d:SR→Option SR)(c:UInt8)(a:Int)(e:Rest)(v:Vl)(s:SR):Option SR:=
 if c=62 then(if 0≤e.label then some (a3B e v s,s.2++ [⟨0,a.toNat,e.label.toNat,v⟩])else none)
 else if c=94 then(if 0≤e.label then some (a3B e v s,s.2++ [⟨1,a.toNat,e.label.toNat,v⟩])else none)
 else if c=40 then(if v.fault=0 then(if v.num≠0 then b (a3B e v s,s.2)else d (a3B e v s,s.2))else some (a3B e v s,s.2))
 else some (a3B e v s,s.2)
def b15(C:List UInt8)(A:List Int)(b:Nat→Nat→SR→Option SR)(lo:Nat)(s:SR):Option SR:=
 match a1K C lo,a2b C lo,C[lo]?,A[lo]? with
 |some e,some t,some c,some a=>
  if c=42 then
   match C[lo+1]? with
   |some d=>if 48≤d.toNat then a7K (fun s=>b t.p t.q s) (d.toNat-48) s else none
   |none=>none
  else
   match a3v C s.1 (C.length+1) e.lo e.hi with
   |some v=>if e.hi≤C.length∧e.name<26∧0≤a then a70 (fun s=>b t.p t.q s) (fun s=>b t.r t.s s) c a e v s else none
   |none=>none
 |_,_,_,_=>none
def a2n(C:List UInt8)(A:List Int):Nat→Nat→Nat→SR→Option SR
 |0,_,_,_=>none
 |f+1,lo,hi,s=>
  if lo<hi then
   match a0W C lo,b15 C A (a2n C A f) lo s with
   |some o,some s'=>a2n C A f o hi s'
   |_,_=>none
  else some s
theorem b1J(C:List UInt8)(A:List Int)(f lo hi:Nat)(s:SR)(h:¬lo<hi):a2n C A (f+1) lo hi s=some s:=by
 unfold a2n;rw[f_ h]
theorem c4P{C:List UInt8}{A:List Int}{f lo hi o:Nat}{s a:SR}(h:lo<hi)(b:a0W C lo=some o)(c:b15 C A (a2n C A f) lo s=some a):a2n C A (f+1) lo hi s=a2n C A f o hi a:=by
 conv=>lhs;unfold a2n
 rw[n_ h,b,c]
theorem b5T{f:SR→Option SR}{g:SR→SR}(h:∀s,f s=some (g s)):∀(n:Nat) (s:SR),a7K f n s=some (a7L g n s)
 |0,s=>rfl
 |n+1,s=>by
  unfold a7K a7L;rw[h s];exact b5T h n (g s)
theorem Ev.value{C:List UInt8}{i j:Nat}{s:Option (Nat×Nat)}{P:List Pt}(h:Ev C i j s P)(names:List Vl):a3v C names (C.length+1) i j=some (a1O names P):=by
 obtain⟨v,a,b⟩:=h.val;have c:=h.le;rw[a names _ (by omega)];unfold a1O;rw[b];simp[a2F]
theorem b4x{C:List UInt8}{A:List Int} :∀(n:Nat) (l:List (RT n)) (lo hi f:Nat) (s:SR),a3i C A n lo hi l→hi≤C.length→hi-lo<f→a2n C A f lo hi s=some (doF n s l)
 |0,l,lo,hi,0,s,h,_,I=>by omega
 |0,l,lo,hi,f+1,s,h,_,I=>by
  have O:lo=hi:=h;subst O;exact b1J C A f lo lo s (a_s _)
 |n+1,l,lo,hi,f,s,h,hh,I=>by
  have Ac:∀(l:List (a0C×List (RT n)×List (RT n))) (lo f:Nat) (s:SR),a7r (fun i o q=>a49 C A (a3i C A n) i o q) lo hi l→hi-lo<f→a2n C A f lo hi s=some (doL (doF n) s l):=by
   intro l;induction l with
   |nil=>
    intro lo f s h I;have O:lo=hi:=h;subst O;cases f with
    |zero=>omega
    |succ f=>exact b1J C A f lo lo s (a_s _)
   |cons q r ih=>
    intro lo f s h I;obtain⟨Z,o,j,h2⟩:=h;obtain⟨e,T,Ae,U,_,_,m,J⟩:=j.rest;obtain⟨G,P,R,S⟩:=j.blocks;obtain⟨c,hc,u,t,y,z⟩:=j.byte;have Aa:=j.place;have Ai:=a8M j.over T P;have Af:=a07 j.over;have Y:=a2A j.over;have hx:G.q≤C.length∧G.s≤C.length:=by
     have s1:=a3t C;have a2:=s1 (a0q C lo);have a3:=s1 (lo+2);have Ah:=a2z j.over;have B:=P;rw[a2a j.over Y]at B;repeat' split at B
     all_goals (cases B;simp only;omega)
    have Ag:=(a6c r o _ (fun i o q hq=>a07 hq.over) h2).1;cases f with
    |zero=>omega
    |succ f=>
    have w1:=fun s=>b4x n q.2.1 G.p G.q f s R hx.1 (by omega)
    have w2:=fun s=>b4x n q.2.2 G.r G.s f s S hx.2 (by omega)
    have w3:=fun s=>ih o f s h2 (by omega)
    have Ab:b15 C A (a2n C A f) lo s=some (doT (doF n) s q):=by
     unfold b15;rw[T,P,hc,Aa];simp only;by_cases M:q.1.kind=4
     ·rw[n_ (u.mpr M)];obtain⟨d,hd,d1,d2,Ad⟩:=j.times M;rw[hd];simp only;rw[n_ (by omega),b5T (g:=fun s=>doF n s q.2.1) w1];have e1:q.1.count.toNat=d.toNat-48:=by omega
      unfold doT;simp[M,e1]
     ·rw[f_ (fun k=>M (u.mp k))];obtain⟨e',H,sv,V⟩:=j.val M;rw[T]at H;cases H;rw[V.1.value];simp only;obtain⟨Aj,Ak⟩:=j.kind;have D:=j.name;have X:e.hi≤C.length∧e.name<26∧(0:Int)≤(q.1.place:Int):=by
       refine⟨U,?_,by omega⟩;rw[m]
       split
       ·rename_i hk;exact(D hk).2
       ·omega
      rw[n_ X];unfold a70 doT;generalize a1O s.1 q.1.parts=v;by_cases L:q.1.kind=2
      ·rw[n_ (y.mpr L)];have E:e.name= -1:=by rw[m];simp[L]
       have n2:e.label=(q.1.label:Int):=by rw[J];simp[L]
       unfold a3B;rw[E,n2];simp[L]
      rw[f_ (fun k=>L (y.mp k))];by_cases F:q.1.kind=1
      ·rw[n_ (z.mpr F)];have hn:=D (.inr F);have E:e.name=q.1.name:=by rw[m];simp[F]
       have n2:e.label=(q.1.label:Int):=by rw[J];simp[F]
       unfold a3B;rw[E,n2,n_ hn.1];simp[F]
      rw[f_ (fun k=>F (z.mp k))];by_cases N:q.1.kind=3
      ·rw[n_ (t.mpr N)];have E:e.name= -1:=by rw[m];simp[N]
       have hg:a3B e v s=s.1:=by unfold a3B;rw[E];simp
       rw[hg];simp only[N];by_cases v0:v.fault=0
       ·by_cases v1:v.num=0
        ·simp[v0,v1,w2]
        ·simp[v0,v1,w1]
       ·simp[v0]
      ·rw[f_ (fun k=>N (t.mp k))];have k0:q.1.kind=0:=by omega
       have hn:=D (.inl k0);have E:e.name=q.1.name:=by rw[m];simp[k0]
       unfold a3B;rw[E,n_ hn.1];simp[k0]
    rw[c4P Z j.over Ab,w3];rfl
  exact Ac l lo f s h I
def a4j(C:List UInt8)(B:Nat):Nat→Nat→Option (List Int)
 |0,_=>none
 |f+1,i=>
  if i<B then
   match C[i]?,C[i+1]?,a0W C i with
   |some c,some d,some o=>
    (match a4j C B f o with
    |some l=>some (if c=63 then((d.toNat:Int)-97)::l else l)
    |none=>none)
   |_,_,_=>none
  else some []
def a6y:List Int→List Int→List Vl→List Vl
 |n::r,x::g,vals=>a6y r g (vals.set n.toNat ⟨x,0⟩)
 |_,_,vals=>vals
theorem b5e{C:List UInt8}{A:List Int}{B:Nat} :∀(l:List Hd) (i f:Nat),a44 C A i B l→B-i<f→a4j C B f i=some ((l.filter (·.field)).map (·.name))
 | [],i,0,h,hf=>by omega
 | [],i,f+1,h,hf=>by
  have:i=B:=h;subst this;unfold a4j;rw[f_ (a_s _)];rfl
 |a::r,i,0,h,hf=>by omega
 |a::r,i,f+1,h,hf=>by
  obtain⟨k,o,g,m⟩:=h;obtain⟨c,n,_,e⟩:=g.byte;obtain⟨d,p,q⟩:=g.name;have s:=a07 g.over;have t:=(a7v r o B m).1;unfold a4j;rw[n_ k,n,p,g.over];simp only;rw[b5e r o f m (by omega)];simp only;by_cases b:c=63
  ·rw[n_ b,List.filter_cons_of_pos (e.mp b),List.map_cons,q]
  ·have:a.field=false:=by
    cases j:a.field
    ·rfl
    ·exact absurd (e.mpr j) b
   rw[f_ b,List.filter_cons_of_neg (by simp[this])]
theorem a6z:∀(l:List Hd) (fs:List Int) (a:List Vl),a6y ((l.filter (·.field)).map (·.name)) fs a=a2d l fs a
 | [],fs,a=>by cases fs<;>rfl
 |h::r,fs,a=>by
  cases b:h.field
  ·rw[a69 b,List.filter_cons_of_neg (by simp[b])];exact a6z r fs a
  ·rw[List.filter_cons_of_pos b,List.map_cons];cases fs with
   |nil=>
    rw[b0p,←a6z r [] a];cases (r.filter (·.field)).map (·.name)<;>rfl
   |cons x g=>
    rw[a8x b];exact a6z r g _
end Go.Proofs.YtdgmoiflahoihaaGreatDoor
