import Derived.Test.YtdgmoiflahoihaaGreatDoorLNmw
import Derived.Test.YtdgmoiflahoihaaGreatDoorRValw
import Derived.Test.YtdgmoiflahoihaaGreatDoorVAw
import Derived.Test.YtdgmoiflahoihaaGreatDoorROpw

set_option linter.unusedSimpArgs false
set_option linter.unusedVariables false
set_option maxRecDepth 100000
set_option maxHeartbeats 8000000
namespace Go.Proofs.YtdgmoiflahoihaaGreatDoor
open Go.RowKit
structure XS where
 regs:List Vl
 notes:List Nt
 pc:Nat
def XS.give(s:XS)(a:Int)(v:Vl):XS:=⟨s.regs.set a.toNat v,s.notes,s.pc+1⟩
def XS.reg(s:XS)(a:Int):Vl:=s.regs.getD a.toNat vl0
def a0m(x:Ic)(fs:List Int)(s:XS):XS:=
 if x.op=1 then s.give x.a ⟨x.b,0⟩
 else if x.op=2 then s.give x.a (s.reg x.b)
 else if x.op=3 then s.give x.a (a4E (s.reg x.b))
 else if x.op=11 then s.give x.a ⟨fs.getD x.b.toNat 0,0⟩
 else if x.op=12 then { s with pc:=x.a.toNat }
 else if x.op=13 then { s with pc:=if(s.reg x.a).fault≠0 then x.c.toNat else if(s.reg x.a).num=0 then x.b.toNat else s.pc+1 }
 else if x.op=14 then { s with notes:=s.notes++ [⟨0,x.a.toNat,x.b.toNat,s.reg x.c⟩],pc:=s.pc+1 }
 else if x.op=15 then { s with notes:=s.notes++ [⟨1,x.a.toNat,x.b.toNat,s.reg x.c⟩],pc:=s.pc+1 }
 else s.give x.a (opV x.op (s.reg x.b) (s.reg x.c))
def a2X(l:List Ic)(fs:List Int):Nat→XS→Option (List Nt)
 |0,_=>none
 |f+1,s=>if(l.getD s.pc ⟨0,0,0,0⟩).op=0 then some s.notes else a2X l fs f (a0m (l.getD s.pc ⟨0,0,0,0⟩) fs s)
def a5q:List Vl:=List.replicate 100 vl0
def x0:XS:=⟨a5q,[],0⟩
def a5d(l:List Ic)(n:Nat):Bool:=l.all fun x=> !(x.op==11&&decide ((n:Int)≤x.b))
def a1R(l:List Ic)(fs:List Int):Int×List Nt:=
 if(a0x l).1≠0 then((a0x l).1,[])
 else if a5d l fs.length then(match a2X l fs 50000 x0 with|none=>(8,[])|some n=>(0,n))
 else(6,[])
theorem b59{n:Nat} :∀(l:List Ic) (k:Nat),(a4e n l k).1=0→∀i (h:i<l.length),a0I l[i] n=true∧(i+1=l.length→a4A l[i]=true)
 | [],_,_,i,h=>absurd h (by simp)
 |x::r,k,hv,i,h=>by
  unfold a4e at hv
  split at hv
  ·rename_i a;simp only[Z_,Bool.or_eq_true]at a;cases i with
   |zero=>
    refine⟨by simpa using a.1,fun b=> ?_⟩;have c:r= []:=by simpa using b
    subst c;simpa using a.2
   |succ i=>
    have:=b59 r (k+1) hv i (by simpa using h);simpa using this
  ·simp at hv
theorem a8f{l:List Ic}(h:(a0x l).1=0):0<l.length∧l.length≤2000∧∀i (hi:i<l.length),a0I l[i] l.length=true∧(i+1=l.length→a4A l[i]=true):=by
 unfold a0x at h
 split at h
 ·simp at h
 split at h
 ·simp at h
 ·exact⟨by omega,by omega,b59 l 0 h⟩
structure XOk(s:XS):Prop where
 len:s.regs.length=100
 ok:∀v∈s.regs,a0S v
theorem XOk.reg{s:XS}(h:XOk s)(a:Int):a0S (s.reg a):=by
 unfold XS.reg;rw[t_];cases e:s.regs[a.toNat]? with
 |none=>exact⟨by simp[vl0],by simp[vl0],by simp[vl0]⟩
 |some v=>exact h.ok v (a_Q e)
theorem XOk.give{s:XS}(h:XOk s)(a:Int){v:Vl}(c:a0S v):XOk (s.give a v):=by
 refine⟨by simp[XS.give,h.len],fun x d=> ?_⟩;rcases List.mem_or_eq_of_mem_set d with b|b
 ·exact h.ok x b
 ·rw[b];exact c
theorem c5s:XOk x0:=by
 refine⟨by simp[x0,a5q],fun v a=> ?_⟩;have:=a_G a;rw[this];exact⟨by simp[vl0],by simp[vl0],by simp[vl0]⟩
theorem b8g{s:XS}(h:XOk s){x:Ic}(d: -9223372036854775808≤x.b∧x.b≤9223372036854775807){fs:List Int}(a:a3I fs):XOk (a0m x fs s):=by
 have c: -9223372036854775808≤fs.getD x.b.toNat 0∧fs.getD x.b.toNat 0≤9223372036854775807:=by
  rw[t_];cases e:fs[x.b.toNat]? with
  |none=>simp
  |some v=>exact a v (a_Q e)
 unfold a0m
 split
 ·exact h.give _ ⟨d,by simp,by simp⟩
 split
 ·exact h.give _ (h.reg _)
 split
 ·exact h.give _ (b9F (h.reg _))
 split
 ·exact h.give _ ⟨c,by simp,by simp⟩
 split
 ·exact⟨h.len,h.ok⟩
 split
 ·exact⟨h.len,h.ok⟩
 split
 ·exact⟨h.len,h.ok⟩
 split
 ·exact⟨h.len,h.ok⟩
 ·exact h.give _ (c2x _ (h.reg _) (h.reg _))
theorem a9P(x:Ic)(fs:List Int)(s:XS):(a0m x fs s).notes.length≤s.notes.length+1:=by
 unfold a0m XS.give;repeat' split
 all_goals simp
theorem b8h{l:List Ic}(p:(a0x l).1=0){s:XS}(o:s.pc<l.length)(q:l[s.pc].op≠0)(fs:List Int):(a0m l[s.pc] fs s).pc<l.length:=by
 obtain⟨_,_,e⟩:=a8f p;obtain⟨f,n⟩:=e s.pc o;generalize l[s.pc]=x at*;have d:x.op≠12→s.pc+1<l.length:=fun h=>by
  rcases Nat.lt_or_ge (s.pc+1) l.length with g|g
  ·exact g
  ·have:=n (by omega);unfold a4A at this;simp at this;omega
 unfold a0I at f;unfold a0m XS.give
 split
 ·exact d (by omega)
 split
 ·exact d (by omega)
 split
 ·exact d (by omega)
 split
 ·exact d (by omega)
 split
 ·rename_i h;simp[h,bel]at f;show x.a.toNat<l.length;omega
 split
 ·rename_i h;simp[h,bel]at f;have:=d (by omega);obtain⟨⟨_,i,j⟩,k,m⟩:=f;show(if _ then x.c.toNat else if _ then x.b.toNat else s.pc+1)<l.length
  split
  ·exact(Int.toNat_lt k).mpr m
  split
  ·exact(Int.toNat_lt i).mpr j
  ·exact this
 split
 ·exact d (by omega)
 split
 ·exact d (by omega)
 ·exact d (by omega)
theorem a4G(s:XS)(a:Nat):s.reg (a:Int)=s.regs.getD a vl0:=rfl
theorem a4U(s:XS)(a:Nat)(v:Vl):s.give (a:Int) v=⟨s.regs.set a v,s.notes,s.pc+1⟩:=rfl
def a3H(w:World)(r:Int×List Nt)(x:Ending)(w':World):Prop:=
 (∃a,x= .returned (.tuple #[a,.int .i64 r.1])∧(r.1≠0→a= .slice none 0 0)∧w'.ownsRow w.heap.size 61 5 a r.2.length (a0B r.2))∧Below w.heap.size w w'
structure b08(n nf:Nat)(x:Ic):Prop where
 fit:a0I x n=true
 op:x.op≠0
 inp:x.op=11→x.b.toNat<nf
theorem c4b{l:List Ic}{n k:Nat}(d:k<l.length)(a:l[k].op=11)(c:(n:Int)≤l[k].b):a5d l n=false:=by
 unfold a5d;rw[List.all_eq_false];exact⟨l[k],P_ d,by simp[a,c]⟩
theorem b7b{l:List Ic}{n:Nat}(h:∀k,∀c:k<l.length,¬(l[k].op=11∧(n:Int)≤l[k].b)):a5d l n=true:=by
 unfold a5d;rw[b_n];intro x e;obtain⟨k,c,rfl⟩:=b_q e;have:=h k c;simp;by_cases a:l[k].op=11
 ·right;by_cases d:(n:Int)≤l[k].b
  ·exact absurd ⟨a,d⟩ this
  ·omega
 ·exact .inl a
theorem b4u{l:List Ic}{n:Nat}(h:a5d l n=true){k:Nat}(c:k<l.length)(a:l[k].op=11):l[k].b<n:=by
 unfold a5d at h;rw[b_n]at h;have:=h l[k] (P_ c);simp[a]at this;omega
theorem b49{l:List Ic}{fs:List Int}{f:Nat}{s:XS}(b:0<f)(a:s.pc<l.length)(h:l[s.pc].op=0):a2X l fs f s=some s.notes:=by
 obtain⟨m,rfl⟩:∃m,f=m+1:=⟨f-1,by omega⟩
 unfold a2X;have e:l.getD s.pc ⟨0,0,0,0⟩=l[s.pc]:=by rw[t_,s_ a];rfl
 rw[e,n_ h]
theorem b0m{l:List Ic}{fs:List Int}{f:Nat}{s:XS}(b:0<f)(a:s.pc<l.length)(h:l[s.pc].op≠0):a2X l fs f s=a2X l fs (f-1) (a0m l[s.pc] fs s):=by
 obtain⟨m,rfl⟩:∃m,f=m+1:=⟨f-1,by omega⟩
 have e:l.getD s.pc ⟨0,0,0,0⟩=l[s.pc]:=by rw[t_,s_ a];rfl
 rw[a2X,e,f_ h];rfl
theorem b5O{w:World}{b a c n:Nat}{e:TypeId}{v:Value}{xs:List Value}(h:w.ownsRow b e c v n xs)(m:a≤b):w.ownsRow a e c v n xs:=by
 refine⟨h.1,?_⟩;rcases h.2 with i|⟨g,d,f,j,l,k⟩
 ·exact .inl i
 ·exact .inr ⟨g,d,f,j,by omega,k⟩
def a1H(w:World)(a:Option Addr)(g:Nat)(l:List Nt):Prop:=∀i,∀hi:i<l.length,a=some ⟨g,0,none⟩∧g<w.heap.size∧
 w.cell? ⟨g,i*5,none⟩=some (.int .i64 l[i].kind)∧w.cell? ⟨g,i*5+1,none⟩=some (.int .i64 l[i].place)∧w.cell? ⟨g,i*5+2,none⟩=some (.int .i64 l[i].label)∧w.cell? ⟨g,i*5+3,none⟩=some (.int .i64 l[i].val.num)∧w.cell? ⟨g,i*5+4,none⟩=some (.int .i64 l[i].val.fault)
theorem a1H.below{w w':World}{c:Option Addr}{g:Nat}{l:List Nt}(h:a1H w c g l)(a:B__ w w'):a1H w' c g l:=by
 intro i n;obtain⟨e,b,d,f,j,k,m⟩:=h i n;exact⟨e,Q_ b a.size,(a.cell (p:=(a__ g _)) b).trans d,(a.cell (p:=(a__ g _)) b).trans f,(a.cell (p:=(a__ g _)) b).trans j,(a.cell (p:=(a__ g _)) b).trans k,(a.cell (p:=(a__ g _)) b).trans m⟩
theorem a7f(l:List Nt):∀(i:Nat) (h:i<l.length),(a0B l)[i*5]? =some (i_ l[i].kind)∧(a0B l)[i*5+1]? =some (i_ l[i].place)∧(a0B l)[i*5+2]? =some (i_ l[i].label)∧(a0B l)[i*5+3]? =some (i_ l[i].val.num)∧(a0B l)[i*5+4]? =some (i_ l[i].val.fault):=by
 induction l with
 |nil=>intro i h;cases h
 |cons p r ih=>
  intro i h;cases i with
  |zero=>simp[a0B,a1J]
  |succ i=>
   have k:=ih i (by simpa using h);rw[show(i+1)*5=i*5+5 by omega];simpa[a0B,a1J]using k
theorem a4P{w:World}{c:Nat}{v:Value}{l:List Nt}(h:w.ownsRow c 61 5 v l.length (a0B l)):∃d g a,v= .slice d l.length a∧a1H w d g l:=by
 rcases h.2 with⟨rfl,f⟩|⟨g,a,e,rfl,m,o,n,p,j,q⟩
 ·exact⟨none,0,0,by rw[f],fun i b=>absurd b (by omega)⟩
 ·have k:=b8X l;refine⟨some (a__ g 0),g,a,rfl,fun i b=>⟨rfl,(h.lt g rfl).2,?_,?_,?_,?_,?_⟩⟩
  ·rw[h.cellAt (i*5) (by omega)];exact(a7f l i b).1
  ·rw[h.cellAt (i*5+1) (by omega)];exact(a7f l i b).2.1
  ·rw[h.cellAt (i*5+2) (by omega)];exact(a7f l i b).2.2.1
  ·rw[h.cellAt (i*5+3) (by omega)];exact(a7f l i b).2.2.2.1
  ·rw[h.cellAt (i*5+4) (by omega)];exact(a7f l i b).2.2.2.2
theorem b2U{w:World}{c:Nat}{v:Value}{l:List Ic}(h:w.ownsRow c 87 4 v l.length (a0Q l)):∃d g a,v= .slice d l.length a∧a0D w d g 0 l:=by
 have k:=a3W l;rcases h.2 with⟨rfl,f⟩|⟨g,a,e,rfl,m,o,n,p,j,q⟩
 ·exact⟨none,0,0,by rw[f],fun i b=>absurd b (by omega)⟩
 ·refine⟨some (a__ g 0),g,a,rfl,fun i b=>⟨rfl,(h.lt g rfl).2,?_,?_,?_,?_⟩⟩
  ·rw[a_m,h.cellAt (i*4) (by omega)];exact(a6P l i b).1
  ·rw[a_m,h.cellAt (i*4+1) (by omega)];exact(a6P l i b).2.1
  ·rw[a_m,h.cellAt (i*4+2) (by omega)];exact(a6P l i b).2.2.1
  ·rw[a_m,h.cellAt (i*4+3) (by omega)];exact(a6P l i b).2.2.2
open Go.Proofs.Tryz
structure a03(w:World)(g:Nat)(l:List Vl):Prop where
 here:w.heap[g]? =some (.cells (a3h l) 59 (0,0))
theorem a03.lt{w:World}{g:Nat}{l:List Vl}(h:a03 w g l):g<w.heap.size:=(z_.mp h.here).1
theorem a03.block{w w':World}{g:Nat}{l:List Vl}(h:a03 w g l)(e:w'.heap[g]? =w.heap[g]?):a03 w' g l:=⟨e.trans h.here⟩
theorem a03.cell{w:World}{b:Nat}{l:List Vl}(h:a03 w b l)(i:Nat)(hi:i<l.length):w.cell? (a__ b (i*2))=some (i_ (l.getD i vl0).num)∧w.cell? (a__ b (i*2+1))=some (i_ (l.getD i vl0).fault):=by
 obtain⟨a,c⟩:=a6o l i hi;have e:l.getD i vl0=l[i]:=by rw[t_,s_ hi];rfl
 rw[e];constructor
 ·rw[F_ _ _ _ _ _ _ h.here];simpa[a3h]using a
 ·rw[F_ _ _ _ _ _ _ h.here];simpa[a3h]using c
theorem a03.fz{w:World}{g:Nat}{l:List Vl}(h:a03 w g l)(o:Nat):w.frozen? (a__ g o)=false:=by simp[World.frozen?,h.here]
theorem b2E:∀(l:List Vl) (i:Nat) (x:Vl),i<l.length→((a0N l).set (i*2) (i_ x.num)).set (i*2+1) (i_ x.fault)=a0N (l.set i x)
 | [],i,x,h=>absurd h (by simp)
 |v::r,0,x,_=>by simp[a0N,a57]
 |v::r,i+1,x,h=>by
  have a:=b2E r i x (by simpa using h);have e:a0N (v::r)=i_ v.num::i_ v.fault::a0N r:=by simp[a0N,a57]
  rw[e,show(i+1)*2=i*2+1+1 by omega,show i*2+1+1+1=(i*2+1)+1+1 by omega];simp only[j_];rw[a];simp[a0N,a57]
theorem a03.set{w:World}{g:Nat}{l:List Vl}(h:a03 w g l)(i:Nat)(hi:i<l.length)(x:Vl):a03 ((w.setCell (a__ g (i*2)) (i_ x.num)).setCell (a__ g (i*2+1)) (i_ x.fault)) g (l.set i x):=by
 have a:(w.setCell (a__ g (i*2)) (i_ x.num)).heap[g]? =some (.cells ((a0N l).set (i*2) (i_ x.num)).toArray 59 (0,0)):=by
  rw[setCell_eq_setRow w g _ _ _ _ _ h.here,a_N w g _ _ _ _ h.here];simp[a3h]
 have b:((w.setCell (a__ g (i*2)) (i_ x.num)).setCell (a__ g (i*2+1)) (i_ x.fault)).heap[g]? =some (.cells (((a0N l).set (i*2) (i_ x.num)).set (i*2+1) (i_ x.fault)).toArray 59 (0,0)):=by
  rw[setCell_eq_setRow _ g _ _ _ _ _ a,a_N _ g _ _ _ _ a];simp
 refine⟨?_⟩;rw[b,b2E l i x hi];rfl
def a5i(w:World)(g:Nat)(s:XS)(e:Ending)(w':World):Prop:=e= .returned (.int .i64 (s.pc:Nat))∧a03 w' g s.regs∧But g w w'
theorem a6V{g:Nat}{w:World}(o:Obj):But g w (w.alloc o):=World.grownBy_alloc w o (some g)
theorem c7d(g:Nat)(s:XS)(w:World)(e:a03 w g s.regs)(m:XOk s)(k:s.pc≤2000)(fs:List Int)(j:Option Addr)(l of d:Nat)(a:Nat)(b c:Int):
  Calls prog 93 #[icV ⟨12,a,b,c⟩,i_ s.pc,.slice (some (a__ g 0)) 100 100,.slice j fs.length d] w (a5i w g (a0m ⟨12,a,b,c⟩ fs s)):=by
 have h:Hid (a0m ⟨12,a,b,c⟩ fs s=⟨s.regs,s.notes,a⟩):=by show _=_;unfold a0m;simp
 rw[h.out];have i:=h__ e;have f:=e.lt;clear e;go_enter func93,ntmps93;go_wp2_with fail;go_ret;exact⟨rfl,i.out.block (q_ _ _ _ f),a6V _⟩
end Go.Proofs.YtdgmoiflahoihaaGreatDoor
