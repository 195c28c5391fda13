import Derived.Test.YtdgmoiflahoihaaGreatDoorAaw

set_option linter.unusedSimpArgs false
set_option linter.unusedVariables false
set_option maxRecDepth 100000
set_option maxHeartbeats 8000000
namespace Go.Proofs.YtdgmoiflahoihaaGreatDoor
structure Fm where
 st:Int
 op:List UInt8
 body:Bool
 digits:Int
 last:Int
 purpose:Int
 related:Bool
 block:List UInt8
def Fm.to(f:Fm)(n:Int):Fm×Bool:=({ f with st:=n },true)
def a2f(c:Int):Bool:=decide (97≤c)&&decide (c≤122)
def a4c(c:Int):Bool:=decide (48≤c)&&decide (c≤57)
def a8j(c:Int):Bool:=decide (65≤c)&&decide (c≤68)
def Fm.top(f:Fm):UInt8:=f.op.headD 0
def Fm.rule(f:Fm)(c:Int):Fm×Bool:=
 if(c=63∨c=33)∧f.body=false then f.to 5
 else if c=125∧f.top=49 then { f with op:=f.op.tail }.to 1
 else if c=125∧(f.top=50∨f.top=108)then { f with op:=f.op.tail }.to 0
 else
  let f:= { f with body:=true,related:=false }
  if a2f c=true then f.to 2
  else if c=94 then f.to 3
  else if c=62 then { f with purpose:=2 }.to 7
  else if c=40∧f.op.length<8 then { f with op:=99::f.op }.to 10
  else if c=42∧f.op.length<8 then f.to 13
  else(f,false)
def Fm.unit(f:Fm)(c:Int):Fm×Bool:=
 if a4c c=true then { f with digits:=1 }.to 11
 else if a2f c=true then f.to 12
 else if c=45 then f.to 10
 else if c=40∧f.op.length<8 then { f with op:=(if f.related then 69 else 101)::f.op,related:=false }.to 10
 else(f,false)
def Fm.labeled(f:Fm)(c:Int):Fm×Bool:=
 if f.purpose=0∧c=59 then f.to 0
 else if f.purpose=1∧c=61 then f.to 10
 else if f.purpose=2 then f.unit c
 else(f,false)
def Fm.paren(f:Fm):Bool:=f.top=99∨f.top=101∨f.top=69
def Fm.after(f:Fm)(c:Int):Fm×Bool:=
 if c=43∨c=45∨c=42∨c=47∨c=37 then f.to 10
 else if(c=60∨c=61)∧f.related=false then { f with related:=true }.to 10
 else if c=59∧f.paren=false then f.to 0
 else if c=41∧f.top=99 then { f with op:=f.op.tail,related:=false,block:= [49] }.to 14
 else if c=41∧f.top=101 then { f with op:=f.op.tail,related:=false }.to 12
 else if c=41∧f.top=69 then { f with op:=f.op.tail,related:=true }.to 12
 else(f,false)
def Fm.letters(f:Fm)(c:Int):Fm×Bool:=
 if f.st=7∧c=45 then f.to 9
 else if a8j c=true∧(f.st=7∨f.last<c)then { f with last:=c }.to 8
 else if f.st=8 then f.labeled c
 else(f,false)
def Fm.fixed(f:Fm)(c:Int):Fm×Bool:=
 if f.st=2∧c=61 then f.to 10
 else if f.st=3∧a2f c=true then f.to 4
 else if f.st=5∧a2f c=true then f.to 6
 else if f.st=4∧c=58 then { f with purpose:=1 }.to 7
 else if f.st=6∧c=58 then { f with purpose:=0 }.to 7
 else if f.st=13∧a4c c=true∧c≠48 then { f with block:= [108] }.to 14
 else if f.st=14∧c=123 then { f with op:=f.block++f.op }.to 0
 else(f,false)
def Fm.next(f:Fm)(c:Int):Fm×Bool:=
 if f.st=0 then f.rule c
 else if f.st=1 then(if c=123∧f.op.length<8 then { f with op:=50::f.op }.to 0 else f.rule c)
 else if f.st=7∨f.st=8 then f.letters c
 else if f.st=9 then f.labeled c
 else if f.st=10 then f.unit c
 else if f.st=11 then(if a4c c=true then({ f with digits:=f.digits+1 },decide (f.digits+1≤18))else f.after c)
 else if f.st=12 then f.after c
 else f.fixed c
def Fm.start:Fm:=⟨0,[],false,0,0,0,false,[]⟩
def a12(c:UInt8):Bool:=c==32||c==10
def Fm.done(f:Fm):Bool:=(decide (f.st=0)||decide (f.st=1))&&f.op.isEmpty
def a3F:List UInt8→Fm→Nat→Int
 | [],f,i=>if f.done then-1 else i
 |c::r,f,i=>if a12 c then a3F r f (i+1)else if(f.next c.toNat).2 then a3F r (f.next c.toNat).1 (i+1)else i
def placeOf(l:List UInt8):Int:=a3F l Fm.start 0
structure Fm.Small(n:Nat)(f:Fm):Prop where
 op:f.op.length≤n
 block:f.block.length≤1
 d0:0≤f.digits
 d1:f.digits≤n
theorem b35{n:Nat}{f:Fm}(c:Int)(h:f.Small n):(f.rule c).1.Small (n+1):=by
 obtain⟨j,l,m,o⟩:=h;unfold Fm.rule Fm.to;dsimp only;repeat' split
 all_goals (constructor<;>simp<;>omega)
theorem b36{n:Nat}{f:Fm}(c:Int)(h:f.Small n):(f.unit c).1.Small (n+1):=by
 obtain⟨j,l,m,o⟩:=h;unfold Fm.unit Fm.to;repeat' split
 all_goals (constructor<;>simp<;>omega)
theorem b0T{n m:Nat}{f:Fm}(h:f.Small n)(k:n≤m):f.Small m:=by
 obtain⟨a,b,c,d⟩:=h;constructor<;>omega
theorem b06{n:Nat}{f:Fm}(c:Int)(h:f.Small n):(f.labeled c).1.Small (n+1):=by
 unfold Fm.labeled;repeat' split
 case isTrue=>exact⟨by have:=h.1;simp[Fm.to];omega,h.2,h.3,by have:=h.4;simp[Fm.to];omega⟩
 case isTrue=>exact⟨by have:=h.1;simp[Fm.to];omega,h.2,h.3,by have:=h.4;simp[Fm.to];omega⟩
 case isTrue=>exact b36 c h
 case isFalse=>exact b0T h (by omega)
theorem b2y{n:Nat}{f:Fm}(c:Int)(h:f.Small n):(f.after c).1.Small (n+1):=by
 obtain⟨j,l,m,o⟩:=h;unfold Fm.after Fm.to;repeat' split
 all_goals (constructor<;>simp<;>omega)
theorem b6v{n:Nat}{f:Fm}(c:Int)(h:f.Small n):(f.letters c).1.Small (n+1):=by
 unfold Fm.letters;repeat' split
 case isTrue=>exact⟨by have:=h.1;simp[Fm.to];omega,h.2,h.3,by have:=h.4;simp[Fm.to];omega⟩
 case isTrue=>exact⟨by have:=h.1;simp[Fm.to];omega,h.2,h.3,by have:=h.4;simp[Fm.to];omega⟩
 case isTrue=>exact b06 c h
 case isFalse=>exact b0T h (by omega)
theorem b9d{n:Nat}{f:Fm}(c:Int)(h:f.Small n):(f.fixed c).1.Small (n+1):=by
 obtain⟨j,l,m,o⟩:=h;unfold Fm.fixed Fm.to;repeat' split
 all_goals (constructor<;>simp<;>omega)
theorem c06{n:Nat}{f:Fm}(c:Int)(h:f.Small n):(f.next c).1.Small (n+1):=by
 unfold Fm.next;repeat' split
 case isTrue=>exact b35 c h
 case isTrue.isTrue=>exact⟨by have:=h.1;simp[Fm.to];omega,h.2,h.3,by have:=h.4;simp[Fm.to];omega⟩
 case isTrue.isFalse=>exact b35 c h
 case isTrue=>exact b6v c h
 case isTrue=>exact b06 c h
 case isTrue=>exact b36 c h
 case isTrue.isTrue=>exact⟨by have:=h.1;simp;omega,h.2,by have:=h.3;simp;omega,by have:=h.4;simp;omega⟩
 case isTrue.isFalse=>exact b2y c h
 case isTrue=>exact b2y c h
 case isFalse=>exact b9d c h
theorem a6N(s:ByteArray)(k:Nat)(h:k<s.size):s.data.toList.drop k=s[k]::s.data.toList.drop (k+1):=by
 have a:k<s.data.toList.length:=by simpa using h
 rw[u_ a];rfl
theorem b83{s:ByteArray}{k:Nat}{f:Fm}(h:k<s.size)(a:a12 s[k]=true):a3F (s.data.toList.drop (k+1)) f (k+1)=a3F (s.data.toList.drop k) f k:=by
 rw[a6N s k h];simp[a3F,a]
theorem c0T{s:ByteArray}{k:Nat}{f g:Fm}(h:k<s.size)(a:a12 s[k]=false)(b:f.next (s[k].toNat:Int)=(g,true)):a3F (s.data.toList.drop (k+1)) g (k+1)=a3F (s.data.toList.drop k) f k:=by
 rw[a6N s k h];simp[a3F,a,b]
theorem c0U{s:ByteArray}{k:Nat}{f g:Fm}(h:k<s.size)(a:a12 s[k]=false)(b:f.next (s[k].toNat:Int)=(g,false)):(k:Int)=a3F (s.data.toList.drop k) f k:=by
 rw[a6N s k h];simp[a3F,a,b]
theorem c2B{s:ByteArray}{k:Nat}{f:Fm}(h:s.size≤k):a3F (s.data.toList.drop k) f k=if f.done then-1 else(k:Int):=by
 rw[C_ (by simpa using h)];simp[a3F]
def dl(c:UInt8):Int:=if c=40∨c=123 then 1 else if c=41∨c=125 then-1 else 0
def a2N:List UInt8→Int→Nat→Nat
 | [],_,k=>k
 |c::r,n,k=>if n+dl c=0 then k+1 else a2N r (n+dl c) (k+1)
def a0q(C:List UInt8)(i:Nat):Nat:=if i≤C.length then a2N (C.drop i) 0 i else C.length
def a17:List UInt8→Nat→Option Nat
 | [],_=>none
 |c::r,k=>if c=59 then some (k+1)else a17 r (k+1)
def a0W(C:List UInt8)(i:Nat):Option Nat:=
 match C[i]? with
 |none=>none
 |some c=>
  if c=40 then(if C[a0q C (a0q C i)]? =some 123 then some (a0q C (a0q C (a0q C i)))else some (a0q C (a0q C i)))
  else if c=42 then some (a0q C (i+2))
  else a17 (C.drop i) i
def a4s(C:List UInt8):Nat→Nat→Option Nat
 |0,_=>none
 |f+1,i=>
  match C[i]? with
  |none=>some i
  |some c=>if c=63∨c=33 then(match a0W C i with|none=>none|some k=>a4s C f k)else some i
def a2U(C:List UInt8):Option Nat:=a4s C (C.length+1) 0
theorem c5m{c:UInt8}(h:(c.toNat:Int)=40∨(c.toNat:Int)=123):dl c=1:=by
 have:c=40∨c=123:=by
  rcases h with h|h
  ·exact .inl (a_p.mp (by simp;omega))
  ·exact .inr (a_p.mp (by simp;omega))
 simp[dl,this]
theorem b9v{c:UInt8}(h:(c.toNat:Int)=41∨(c.toNat:Int)=125):dl c= -1:=by
 have:c=41∨c=125:=by
  rcases h with h|h
  ·exact .inl (a_p.mp (by simp;omega))
  ·exact .inr (a_p.mp (by simp;omega))
 rcases this with rfl|rfl<;>decide
theorem c0o{c:UInt8}(g:¬(c.toNat:Int)=40)(h:¬(c.toNat:Int)=123)(i:¬(c.toNat:Int)=41)(j:¬(c.toNat:Int)=125):dl c=0:=by
 have a:¬c=40:=fun e=>g (by rw[e];rfl)
 have b:¬c=123:=fun e=>h (by rw[e];rfl)
 have d:¬c=41:=fun e=>i (by rw[e];rfl)
 have f:¬c=125:=fun e=>j (by rw[e];rfl)
 simp[dl,a,b,d,f]
theorem c32(c:UInt8):
  (((c.toNat:Int)==40)=true∧dl c=1)∨(((c.toNat:Int)==40)=false∧((c.toNat:Int)==123)=true∧dl c=1)∨
  (((c.toNat:Int)==40)=false∧((c.toNat:Int)==123)=false∧((c.toNat:Int)==41)=true∧dl c= -1)∨
  (((c.toNat:Int)==40)=false∧((c.toNat:Int)==123)=false∧((c.toNat:Int)==41)=false∧((c.toNat:Int)==125)=true∧dl c= -1)∨
  (((c.toNat:Int)==40)=false∧((c.toNat:Int)==123)=false∧((c.toNat:Int)==41)=false∧((c.toNat:Int)==125)=false∧dl c=0):=by
 cases a:((c.toNat:Int)==40)
 ·cases b:((c.toNat:Int)==123)
  ·cases d:((c.toNat:Int)==41)
   ·cases e:((c.toNat:Int)==125)
    ·exact .inr (.inr (.inr (.inr ⟨rfl,rfl,rfl,rfl,c0o (a_M a) (a_M b) (a_M d) (a_M e)⟩)))
    ·exact .inr (.inr (.inr (.inl ⟨rfl,rfl,rfl,rfl,b9v (.inr (a_S e))⟩)))
   ·exact .inr (.inr (.inl ⟨rfl,rfl,rfl,b9v (.inl (a_S d))⟩))
  ·exact .inr (.inl ⟨rfl,rfl,c5m (.inr (a_S b))⟩)
 ·exact .inl ⟨rfl,c5m (.inl (a_S a))⟩
theorem a3u{C:List UInt8}{k:Nat}(h:k<C.length)(n:Int):a2N (C.drop k) n k=if n+dl C[k]=0 then k+1 else a2N (C.drop (k+1)) (n+dl C[k]) (k+1):=by
 rw[u_ h];rfl
theorem c23{C:List UInt8}{k:Nat}(h:C.length≤k)(n:Int):a2N (C.drop k) n k=k:=by
 rw[C_ h];rfl
theorem a8b{C:List UInt8}{k i:Nat}{n:Int}(h:k<C.length)(hi:i≤k)(c:a2N (C.drop k) n k=a2N (C.drop i) 0 i){d:Int}(b:dl C[k]=d)(a:n+d=0):((k:Int)+1)=(a0q C i:Int):=by
 have e:a0q C i=k+1:=by
  unfold a0q;rw[n_ (by omega),←c,a3u h,b,n_ a]
 rw[e];omega
theorem a8a{C:List UInt8}{k i:Nat}{n:Int}(h:k<C.length)(c:a2N (C.drop k) n k=a2N (C.drop i) 0 i){d:Int}(b:dl C[k]=d)(a:¬n+d=0):a2N (C.drop (k+1)) (n+d) (k+1)=a2N (C.drop i) 0 i:=by
 rw[←c,a3u h,b,f_ a]
theorem c40{C:List UInt8}{k i:Nat}{n:Int}(h:C.length≤k)(a:i≤C.length→k≤C.length)(b:a2N (C.drop k) n k=a2N (C.drop i) 0 i):(C.length:Int)=(a0q C i:Int):=by
 unfold a0q
 split
 ·rw[←b,c23 h];omega
 ·rfl
theorem a85(l:List UInt8):∀(n:Int) (k:Nat),k≤a2N l n k∧a2N l n k≤k+l.length:=by
 induction l with
 |nil=>intro n k;simp[a2N]
 |cons c r ih=>
  intro n k;have:=ih (n+dl c) (k+1);simp only[a2N,B_]
  split<;>omega
theorem a3t(C:List UInt8)(i:Nat):a0q C i≤C.length:=by
 unfold a0q
 split
 ·have:=a85 (C.drop i) 0 i;simp at this;omega
 ·omega
theorem a2A{C:List UInt8}{i k:Nat}(h:a0W C i=some k):i<C.length:=by
 unfold a0W at h;cases e:C[i]? with
 |none=>rw[e]at h;cases h
 |some c=>exact(k_.mp e).1
theorem a5f{C:List UInt8}{i:Nat}(h:i<C.length):a0W C i=
  if C[i]=40 then(if C[a0q C (a0q C i)]? =some 123 then some (a0q C (a0q C (a0q C i)))else some (a0q C (a0q C i)))
  else if C[i]=42 then some (a0q C (i+2))
  else a17 (C.drop i) i:=by
 unfold a0W;rw[s_ h]
theorem c6m{C:List UInt8}{k K:Nat}(h:a17 (C.drop k) k=some K):k<C.length:=by
 apply a_F;intro a;rw[C_ (by omega)]at h;cases h
theorem c4Z{C:List UInt8}{k K:Nat}(h:a17 (C.drop k) k=some K)(b:k<C.length)(a:C[k]=59):(k:Int)+1=(K:Int):=by
 rw[u_ b]at h;simp only[a17,a,n_,U_]at h;omega
theorem c22{C:List UInt8}{k K:Nat}(h:a17 (C.drop k) k=some K)(b:k<C.length)(a:¬C[k]=59):a17 (C.drop (k+1)) (k+1)=some K:=by
 rw[u_ b]at h;simpa[a17,a]using h
theorem b4E:∀(l:List UInt8) (k K:Nat),a17 l k=some K→k<K∧K≤k+l.length
 | [],_,_,h=>by cases h
 |c::r,k,K,h=>by
  by_cases a:c=59
  ·simp[a17,a]at h;simp;omega
  ·simp[a17,a]at h;have:=b4E r (k+1) K h;simp;omega
theorem a2z{C:List UInt8}{i k:Nat}(h:a0W C i=some k):k≤C.length:=by
 have b:=a2A h;rw[a5f b]at h;have a:=a3t C;repeat' split at h
 ·cases h;exact a _
 ·cases h;exact a _
 ·cases h;exact a _
 ·have:=b4E _ _ _ h;simp at this;omega
theorem b76{C:List UInt8}{i:Nat}(h:i≤C.length):i≤a0q C i:=by
 unfold a0q;rw[n_ h];exact(a85 _ _ _).1
theorem a07{C:List UInt8}{i k:Nat}(h:a0W C i=some k):i<k:=by
 have c:=a2A h;rw[a5f c]at h;have f:=a3t C;have d:=fun j h=>b76 (C:=C) (i:=j) h
 have g:=d _ (f i);have l:=d _ (f (a0q C i));by_cases a:C[i]=40
 ·have m:i+1≤a0q C i:=by
   unfold a0q;rw[n_ (by omega),a3u c,a];have:dl 40=1:=by decide
   rw[this,f_ (by decide)];exact(a85 _ _ _).1
  rw[n_ a]at h
  split at h<;>cases h<;>omega
 ·rw[f_ a]at h;by_cases b:C[i]=42
  ·rw[n_ b]at h;cases h;by_cases e:i+2≤C.length
   ·have:=d (i+2) e;omega
   ·unfold a0q;rw[f_ e];exact c
  ·rw[f_ b]at h;exact(b4E _ _ _ h).1
theorem c1p{C:List UInt8}{f j k:Nat}(h:a4s C f j=some k)(a:C.length≤j):(j:Int)=(k:Int):=by
 cases f with
 |zero=>cases h
 |succ f=>
  unfold a4s at h;rw[a_Y a]at h;cases h;rfl
theorem c3K{C:List UInt8}{f j k:Nat}(h:a4s C f j=some k)(c:j<C.length)(a:¬C[j]=63)(b:¬C[j]=33):(j:Int)=(k:Int):=by
 cases f with
 |zero=>cases h
 |succ f=>
  unfold a4s at h;rw[s_ c]at h;simp[a,b]at h;omega
theorem b4U{C:List UInt8}{f j k:Nat}(h:a4s C f j=some k)(c:j<C.length)(b:C[j]=63∨C[j]=33):∃m a,a0W C j=some m∧a4s C a m=some k:=by
 cases f with
 |zero=>cases h
 |succ f=>
  unfold a4s at h;rw[s_ c]at h;simp only[b,a_b]at h;cases e:a0W C j with
  |none=>rw[e]at h;cases h
  |some m=>rw[e]at h;exact⟨m,f,rfl,h⟩
def scB(c:UInt8):Bool:=decide (65≤c.toNat)&&decide (c.toNat≤68)
def nmB(c:UInt8):Bool:=decide (97≤c.toNat)&&decide (c.toNat≤122)
def dgB(c:UInt8):Bool:=decide (48≤c.toNat)&&decide (c.toNat≤57)
def a3a:List UInt8→Nat→Nat→Option (Nat×Nat)
 | [],_,_=>none
 |c::r,l,i=>if scB c then a3a r (l|||2^(c.toNat-65)) (i+1)else some (l,i)
def a3q(C:List UInt8)(i:Nat):Option (Nat×Nat):=
 match C[i]? with
 |none=>none
 |some c=>if c=45 then some (0,i+1)else a3a (C.drop i) 0 i
def a2E:List UInt8→Nat→Nat
 | [],n=>n
 |c::r,n=>a2E r (if nmB c then n|||2^(c.toNat-97)else n)
def seg(C:List UInt8)(lo hi:Nat):List UInt8:=(C.drop lo).take (hi-lo)
def a1F(C:List UInt8)(lo hi:Nat):Nat:=a2E (seg C lo hi) 0
def a1S:Bool→List UInt8→Nat
 |_,[]=>0
 |d,c::r=>(if c≠40∧c≠41∧(d&&dgB c)=false then 1 else 0)+a1S (dgB c) r
def a2w(C:List UInt8)(lo hi:Nat):Nat:=a1S false (seg C lo hi)
theorem a25{C:List UInt8}{k hi:Nat}(b:k<hi)(a:hi≤C.length):seg C k hi=C[k]::seg C (k+1) hi:=by
 unfold seg;rw[u_ (by omega),show hi-k=(hi-(k+1))+1 by omega,List.take_succ_cons]
theorem a4n{C:List UInt8}{k hi:Nat}(a:hi≤k):seg C k hi= []:=by
 unfold seg;rw[show hi-k=0 by omega,List.take_zero]
theorem c2m{C:List UInt8}{k hi m:Nat}(b:k<hi)(a:hi≤C.length)(h:nmB C[k]=true):a2E (seg C (k+1) hi) (m|||2^(C[k].toNat-97))=a2E (seg C k hi) m:=by
 rw[a25 b a];simp[a2E,h]
theorem c4y{C:List UInt8}{k hi m:Nat}(b:k<hi)(a:hi≤C.length)(h:nmB C[k]=false):a2E (seg C (k+1) hi) m=a2E (seg C k hi) m:=by
 rw[a25 b a];simp[a2E,h]
theorem c4q{C:List UInt8}{j l:Nat}{r:Nat×Nat}(h:a3a (C.drop j) l j=some r):j<C.length:=by
 apply a_F;intro a;rw[C_ (by omega)]at h;cases h
theorem c18{C:List UInt8}{j l:Nat}{r:Nat×Nat}(h:a3a (C.drop j) l j=some r)(a:j<C.length)(b:scB C[j]=true):a3a (C.drop (j+1)) (l|||2^(C[j].toNat-65)) (j+1)=some r:=by
 rw[u_ a]at h;simpa[a3a,b]using h
theorem c4r{C:List UInt8}{j l:Nat}{r:Nat×Nat}(h:a3a (C.drop j) l j=some r)(a:j<C.length)(b:scB C[j]=false):r=(l,j):=by
 rw[u_ a]at h;simp[a3a,b]at h;exact h.symm
theorem a9o{C:List UInt8}{i:Nat}{r:Nat×Nat}(h:a3q C i=some r):i<C.length:=by
 unfold a3q at h;cases e:C[i]? with
 |none=>rw[e]at h;cases h
 |some c=>exact(k_.mp e).1
theorem a76{C:List UInt8}{i:Nat}(h:i<C.length):a3q C i=if C[i]=45 then some (0,i+1)else a3a (C.drop i) 0 i:=by
 unfold a3q;rw[s_ h]
theorem c24{C:List UInt8}{k hi:Nat}{d:Bool}(b:k<hi)(a:hi≤C.length):a1S d (seg C k hi)=(if C[k]≠40∧C[k]≠41∧(d&&dgB C[k])=false then 1 else 0)+a1S (dgB C[k]) (seg C (k+1) hi):=by
 rw[a25 b a];rfl
structure Rest where
 name:Int
 label:Int
 lo:Nat
 hi:Nat
def a1K(C:List UInt8)(i:Nat):Option Rest:=
 match a0W C i,C[i]? with
 |some o,some c=>
  if c=62 then(match a3q C (i+1)with|some r=>some ⟨-1,r.1,r.2,o-1⟩|none=>none)
  else if c=94 then(match a3q C (i+3),C[i+1]? with|some r,some d=>some ⟨(d.toNat:Int)-97,r.1,r.2+1,o-1⟩|_,_=>none)
  else if c=40 then some ⟨-1,-1,i+1,a0q C i-1⟩
  else if c=42 then some ⟨-1,-1,i,i⟩
  else some ⟨(c.toNat:Int)-97,-1,i+2,o-1⟩
 |_,_=>none
structure Two where
 p:Nat
 q:Nat
 r:Nat
 s:Nat
def a2b(C:List UInt8)(i:Nat):Option Two:=
 match a0W C i,C[i]? with
 |some n,some c=>
  if c=40∨c=42 then
   let k:=if c=40 then a0q C i else i+2
   let m:=a0q C k
   if n=m then some ⟨k+1,m-1,m,m⟩else some ⟨k+1,m-1,m+1,n-1⟩
  else some ⟨i,i,i,i⟩
 |_,_=>none
def a2S(C:List UInt8):Nat→Nat→Nat→Option Nat
 |0,_,_=>none
 |f+1,lo,hi=>
  if lo<hi then
   match a1K C lo,a2b C lo,a0W C lo,C[lo]? with
   |some e,some t,some o,some c=>
    match a2S C f t.p t.q,a2S C f t.r t.s,a2S C f o hi with
    |some x,some y,some z=>
     if e.lo≤e.hi∧e.hi≤C.length then
      if c=42 then
       match C[lo+1]? with
       |some d=>if 48≤d.toNat∧1+a2w C e.lo e.hi+(d.toNat-48)*(1+x)+y+z<1099511627776 then some (1+a2w C e.lo e.hi+(d.toNat-48)*(1+x)+y+z)else none
       |none=>none
      else if 1+a2w C e.lo e.hi+x+y+z<1099511627776 then some (1+a2w C e.lo e.hi+x+y+z)else none
     else none
    |_,_,_=>none
   |_,_,_,_=>none
  else some 0
theorem b26{C:List UInt8}{i:Nat}(hi:i<C.length)(a:C[i]=40):i+1≤a0q C i:=by
 unfold a0q;rw[n_ (by omega),a3u hi,a];have:dl 40=1:=by decide
 rw[this,f_ (by decide)];exact(a85 _ _ _).1
theorem b5v:∀(l:List UInt8) (m k:Nat) (r:Nat×Nat),a3a l m k=some r→r.2≤k+l.length∧k≤r.2
 | [],_,_,_,h=>by cases h
 |c::t,m,k,r,h=>by
  by_cases a:scB c=true
  ·simp[a3a,a]at h;have:=b5v t _ _ _ h;simp;omega
  ·simp[a3a,a]at h;subst h;simp
theorem b1s{C:List UInt8}{i l j:Nat}(h:a3q C i=some (l,j)):j≤C.length∧i≤j:=by
 have a:=a9o h;rw[a76 a]at h
 split at h
 ·cases h;omega
 ·have:=b5v _ _ _ _ h;simp at this;omega
theorem a2a{C:List UInt8}{i n:Nat}(c:a0W C i=some n)(hi:i<C.length):a2b C i=
  if C[i]=40 then(if n=a0q C (a0q C i)then some ⟨a0q C i+1,a0q C (a0q C i)-1,a0q C (a0q C i),a0q C (a0q C i)⟩else some ⟨a0q C i+1,a0q C (a0q C i)-1,a0q C (a0q C i)+1,n-1⟩)
  else if C[i]=42 then(if n=a0q C (i+2)then some ⟨i+3,a0q C (i+2)-1,a0q C (i+2),a0q C (i+2)⟩else some ⟨i+3,a0q C (i+2)-1,a0q C (i+2)+1,n-1⟩)
  else some ⟨i,i,i,i⟩:=by
 unfold a2b;rw[c,s_ hi];by_cases a:C[i]=40
 ·simp[a]
 ·by_cases b:C[i]=42
  ·simp[b]
  ·simp[a,b]
theorem b77{C:List UInt8}{k:Nat}(a:0<C.length)(b:0<k):1≤a0q C k:=by
 unfold a0q
 split
 ·have:=(a85 (C.drop k) 0 k).1;omega
 ·omega
theorem a72{C:List UInt8}{i:Nat}{t:Two}(h:a2b C i=some t)(z:C.length≤400):t.p≤500∧t.q≤500∧t.r≤500∧t.s≤500:=by
 cases j:a0W C i with
 |none=>unfold a2b at h;rw[j]at h;cases h
 |some n=>
  have m:=a2A j;have A:=a2z j;have l:=a3t C;have o:=l i;have u:=l (a0q C i);have y:=l (i+2);rw[a2a j m]at h;repeat' split at h
  all_goals (cases h;refine⟨?_,?_,?_,?_⟩<;>simp only<;>omega)
theorem c3v{C:List UInt8}{f k hi z:Nat}(h:a2S C f k hi=some z)(a:hi≤k):z=0:=by
 cases f with
 |zero=>cases h
 |succ f=>
  unfold a2S at h;rw[f_ (by omega)]at h;cases h;rfl
theorem b17{C:List UInt8}{f k hi z:Nat}(h:a2S C f k hi=some z):z<1099511627776:=by
 cases f with
 |zero=>cases h
 |succ f=>
  unfold a2S at h;repeat' split at h
  all_goals (first|(cases h;omega)|cases h)
theorem c3w{C:List UInt8}{f k hi z:Nat}(h:a2S C f k hi=some z)(E:k<hi):
  ∃g e t o x y c,f=g+1∧a1K C k=some e∧a2b C k=some t∧a0W C k=some o∧a2S C g t.p t.q=some x∧a2S C g t.r t.s=some y∧a2S C g o hi=some c∧
   e.lo≤e.hi∧e.hi≤C.length∧z<1099511627776∧
   (∀v:k<C.length,C[k]=42→∃i:k+1<C.length,48≤C[k+1].toNat∧z=1+a2w C e.lo e.hi+(C[k+1].toNat-48)*(1+x)+y+c)∧
   (∀v:k<C.length,¬C[k]=42→z=1+a2w C e.lo e.hi+x+y+c):=by
 cases f with
 |zero=>cases h
 |succ g=>
  unfold a2S at h;rw[n_ E]at h;cases m:a1K C k with
  |none=>rw[m]at h;cases h
  |some e=>
  cases u:a2b C k with
  |none=>rw[m,u]at h;cases h
  |some t=>
  cases w:a0W C k with
  |none=>rw[m,u,w]at h;cases h
  |some o=>
  have v:=a2A w;rw[m,u,w,s_ v]at h;simp only at h;cases b:a2S C g t.p t.q with
  |none=>rw[b]at h;cases h
  |some x=>
  cases n:a2S C g t.r t.s with
  |none=>rw[b,n]at h;cases h
  |some y=>
  cases A:a2S C g o hi with
  |none=>rw[b,n,A]at h;cases h
  |some c=>
  rw[b,n,A]at h;simp only at h;by_cases j:e.lo≤e.hi∧e.hi≤C.length
  ·rw[n_ j]at h;refine⟨g,e,t,o,x,y,c,rfl,rfl,rfl,rfl,b,n,A,j.1,j.2,?_⟩;by_cases a:C[k]=42
   ·rw[n_ a]at h;cases i:C[k+1]? with
    |none=>rw[i]at h;cases h
    |some d=>
     obtain⟨B,D⟩:=k_.mp i;rw[i]at h;simp only at h
     split at h
     ·rename_i l;cases h;subst D;exact⟨l.2,fun _ _=>⟨B,l.1,rfl⟩,fun _ h=>absurd a h⟩
     ·cases h
   ·rw[f_ a]at h
    split at h
    ·rename_i l;cases h;exact⟨l,fun _ h=>absurd h a,fun _ _=>rfl⟩
    ·cases h
  ·rw[f_ j]at h;cases h
def a6e(C:List UInt8)(B:Nat)(a:Int):Nat→Nat→Option Int
 |0,_=>none
 |f+1,i=>
  if i<B then
   match C[i+1]?,a0W C i with
   |some c,some o=>if(c.toNat:Int)-97=a then(match a3q C (i+3)with|some r=>some (r.1:Int)|none=>none)else a6e C B a f o
   |_,_=>none
  else some (-1)
def a6d(C:List UInt8)(a:Int):Option Int:=
 match a2U C with
 |some B=>a6e C B a (C.length+1) 0
 |none=>none
def a4o(C:List UInt8)(i:Nat):Nat→Nat→Option Bool
 |0,_=>none
 |f+1,k=>
  if k<i then
   match C[k+1]?,C[i+1]?,a0W C k with
   |some a,some b,some o=>if a=b then some true else a4o C i f o
   |_,_,_=>none
  else some false
def a55(C:List UInt8)(A:List Int)(B:Nat):Nat→Nat→Option Int
 |0,_=>none
 |f+1,i=>
  if i<B then
   match a4o C i (C.length+1) 0,a0W C i with
   |some true,some _=>A[i+1]?
   |some false,some o=>a55 C A B f o
   |_,_=>none
  else some (-1)
def a7m(C:List UInt8)(A:List Int):Option Int:=
 match a2U C with
 |some B=>a55 C A B (C.length+1) 0
 |none=>none
theorem b7f{C:List UInt8}{B f i:Nat}{a r:Int}(h:a6e C B a f i=some r)(hi:B≤i): -1=r:=by
 cases f with
 |zero=>cases h
 |succ f=>
  unfold a6e at h;rw[f_ (by omega)]at h;cases h;rfl
theorem b5r{C:List UInt8}{B f i:Nat}{a r:Int}(h:a6e C B a f i=some r)(hi:i<B):
  ∃b:i+1<C.length,∃o,a0W C i=some o∧((C[i+1].toNat:Int)-97=a→∃l j,a3q C (i+3)=some (l,j)∧(l:Int)=r)∧(¬(C[i+1].toNat:Int)-97=a→∃k,a6e C B a k o=some r):=by
 cases f with
 |zero=>cases h
 |succ f=>
  unfold a6e at h;rw[n_ hi]at h;cases b:C[i+1]? with
  |none=>rw[b]at h;cases h
  |some c=>
  obtain⟨m,n⟩:=k_.mp b;subst n;cases g:a0W C i with
  |none=>rw[b,g]at h;cases h
  |some o=>
  rw[b,g]at h;simp only at h;refine⟨m,o,rfl,fun d=> ?_,fun d=> ?_⟩
  ·rw[n_ d]at h;cases e:a3q C (i+3)with
   |none=>rw[e]at h;cases h
   |some q=>
    rw[e]at h;simp only[U_]at h;exact⟨q.1,q.2,rfl,h⟩
  ·rw[f_ d]at h;exact⟨f,h⟩
theorem b9j{C:List UInt8}{i f k:Nat}{r:Bool}(h:a4o C i f k=some r)(a:i≤k):r=false:=by
 cases f with
 |zero=>cases h
 |succ f=>
  unfold a4o at h;rw[f_ (by omega)]at h;cases h;rfl
theorem b8u{C:List UInt8}{i f k:Nat}{r:Bool}(h:a4o C i f k=some r)(q:k<i):
  ∃c:k+1<C.length,∃d:i+1<C.length,∃o,a0W C k=some o∧(C[k+1]=C[i+1]→r=true)∧(¬C[k+1]=C[i+1]→∃j,a4o C i j o=some r):=by
 cases f with
 |zero=>cases h
 |succ f=>
  unfold a4o at h;rw[n_ q]at h;cases c:C[k+1]? with
  |none=>rw[c]at h;cases h
  |some a=>
  cases d:C[i+1]? with
  |none=>rw[c,d]at h;cases h
  |some b=>
  cases g:a0W C k with
  |none=>rw[c,d,g]at h;cases h
  |some o=>
  rw[c,d,g]at h;obtain⟨l,m⟩:=k_.mp c;obtain⟨n,p⟩:=k_.mp d;subst m p;simp only at h;refine⟨l,n,o,rfl,fun e=> ?_,fun e=> ?_⟩
  ·rw[n_ e]at h;cases h;rfl
  ·rw[f_ e]at h;exact⟨f,h⟩
theorem c3l{C:List UInt8}{A:List Int}{B f i:Nat}{r:Int}(h:a55 C A B f i=some r)(hi:B≤i): -1=r:=by
 cases f with
 |zero=>cases h
 |succ f=>
  unfold a55 at h;rw[f_ (by omega)]at h;cases h;rfl
theorem c1b{C:List UInt8}{A:List Int}{B f i:Nat}{r:Int}(h:a55 C A B f i=some r)(hi:i<B):
  ∃t o,a4o C i (C.length+1) 0=some t∧a0W C i=some o∧(t=true→A[i+1]? =some r)∧(t=false→∃c,a55 C A B c o=some r):=by
 cases f with
 |zero=>cases h
 |succ f=>
  unfold a55 at h;rw[n_ hi]at h;cases a:a4o C i (C.length+1) 0 with
  |none=>rw[a]at h;cases h
  |some t=>
  cases b:a0W C i with
  |none=>rw[a,b]at h;cases t<;>cases h
  |some o=>
  rw[a,b]at h;refine⟨t,o,rfl,rfl,fun e=> ?_,fun e=> ?_⟩
  ·subst e;exact h
  ·subst e;exact⟨f,h⟩
def a5t(of:List Nat)(names:Nat):Nat→Nat→Nat
 |0,l=>l
 |n+1,l=>a5t of names n (if names&&&2^(25-n)≠0 then l|||of.getD (25-n) 0 else l)
def a2y(of:List Nat)(names:Nat):Nat:=a5t of names 26 0
theorem c6s{of:List Nat}{names k l:Nat}(a:k<26)(h:names&&&2^k≠0):a5t of names (26-(k+1)) (l|||of.getD k 0)=a5t of names (26-k) l:=by
 rw[show 26-k=(26-(k+1))+1 by omega]
 conv=>rhs;unfold a5t
 rw[show 25-(26-(k+1))=k by omega,n_ h]
theorem c7h{of:List Nat}{names k l:Nat}(a:k<26)(h:names&&&2^k=0):a5t of names (26-(k+1)) l=a5t of names (26-k) l:=by
 rw[show 26-k=(26-(k+1))+1 by omega]
 conv=>rhs;unfold a5t
 rw[show 25-(26-(k+1))=k by omega,f_ (by omega)]
theorem a34{a b:Nat}(c:a<16)(d:b<16):a|||b<16:=a_R (n:=4) c d
theorem b90(of:List Nat)(names:Nat)(h:∀x∈of,x<16):∀n l,l<16→a5t of names n l<16
 |0,_,hl=>hl
 |n+1,l,hl=>by
  unfold a5t;refine b90 of names h n _ ?_
  split
  ·refine a34 hl ?_;rw[t_];cases e:of[25-n]? with
   |none=>simp
   |some x=>exact h x (a_Q e)
  ·exact hl
theorem b9Y{of:List Nat}(names:Nat)(h:∀x∈of,x<16):a2y of names<16:=b90 of names h 26 0 (by omega)
def a1I(a b:Nat):Bool:=decide (a|||b=b)
def a9Y(of:List Nat)(c:UInt8)(e:Rest)(E G:Nat):Option Bool:=
 if c=62 then(if 0≤e.label∧e.label<16 then some (a1I (E|||G) e.label.toNat)else none)
 else if c=94 then(if 0≤e.label∧e.label<16∧0≤e.name∧e.name<26 then some (a1I G e.label.toNat&&a1I e.label.toNat (of.getD e.name.toNat 0))else none)
 else if c=40∨c=42 then some true
 else(if 0≤e.name∧e.name<26 then some (a1I (E|||G) (of.getD e.name.toNat 0))else none)
def a2D(C:List UInt8)(A:List Int)(of:List Nat):Nat→Nat→Nat→Nat→Option Int
 |0,_,_,_=>none
 |f+1,lo,hi,g=>
  if lo<hi then
   match a1K C lo,a2b C lo,a0W C lo,C[lo]? with
   |some e,some t,some o,some c=>
    if e.lo≤e.hi∧e.hi≤C.length then
     match a9Y of c e (a2y of (a1F C e.lo e.hi)) (a2y of g)with
     |none=>none
     |some false=>A[lo]?
     |some true=>
      match a2D C A of f t.p t.q (g|||a1F C e.lo e.hi)with
      |none=>none
      |some x=>
       if x<0 then
        match a2D C A of f t.r t.s (g|||a1F C e.lo e.hi)with
        |none=>none
        |some y=>if y<0 then a2D C A of f o hi g else some y
       else some x
    else none
   |_,_,_,_=>none
  else some (-1)
theorem c1D{C:List UInt8}{A:List Int}{of:List Nat}{f k hi g:Nat}{r:Int}(h:a2D C A of f k hi g=some r)(a:hi≤k): -1=r:=by
 cases f with
 |zero=>cases h
 |succ f=>
  unfold a2D at h;rw[f_ (by omega)]at h;cases h;rfl
theorem c0n{C:List UInt8}{A:List Int}{of:List Nat}{f k hi g:Nat}{r:Int}(h:a2D C A of f k hi g=some r)(D:k<hi):
  ∃a e t o ok,f=a+1∧a1K C k=some e∧a2b C k=some t∧a0W C k=some o∧e.lo≤e.hi∧e.hi≤C.length∧
   (∀m:k<C.length,a9Y of C[k] e (a2y of (a1F C e.lo e.hi)) (a2y of g)=some ok)∧(ok=false→A[k]? =some r)∧
   (ok=true→∃x,a2D C A of a t.p t.q (g|||a1F C e.lo e.hi)=some x∧(¬x<0→x=r)∧
    (x<0→∃y,a2D C A of a t.r t.s (g|||a1F C e.lo e.hi)=some y∧(¬y<0→y=r)∧(y<0→a2D C A of a o hi g=some r))):=by
 cases f with
 |zero=>cases h
 |succ a=>
  unfold a2D at h;rw[n_ D]at h;cases c:a1K C k with
  |none=>rw[c]at h;cases h
  |some e=>
  cases i:a2b C k with
  |none=>rw[c,i]at h;cases h
  |some t=>
  cases l:a0W C k with
  |none=>rw[c,i,l]at h;cases h
  |some o=>
  have m:=a2A l;rw[c,i,l,s_ m]at h;simp only at h;by_cases b:e.lo≤e.hi∧e.hi≤C.length
  ·rw[n_ b]at h;cases j:a9Y of C[k] e (a2y of (a1F C e.lo e.hi)) (a2y of g)with
   |none=>rw[j]at h;cases h
   |some ok=>
   rw[j]at h;refine⟨a,e,t,o,ok,rfl,rfl,rfl,rfl,b.1,b.2,fun _=>j,fun v=> ?_,fun w=> ?_⟩
   ·subst v;exact h
   ·subst w;simp only at h;cases n:a2D C A of a t.p t.q (g|||a1F C e.lo e.hi)with
    |none=>rw[n]at h;cases h
    |some x=>
    rw[n]at h;simp only at h;refine⟨x,rfl,fun d=> ?_,fun z=> ?_⟩
    ·rw[f_ d]at h;cases h;rfl
    ·rw[n_ z]at h;cases u:a2D C A of a t.r t.s (g|||a1F C e.lo e.hi)with
     |none=>rw[u]at h;cases h
     |some y=>
     rw[u]at h;simp only at h;refine⟨y,rfl,fun d=> ?_,fun B=> ?_⟩
     ·rw[f_ d]at h;cases h;rfl
     ·rw[n_ B]at h;exact h
  ·rw[f_ b]at h;cases h
theorem b5G:∀(l:List UInt8) (m:Nat),m<2^26→a2E l m<2^26
 | [],_,h=>h
 |c::r,m,h=>by
  unfold a2E;refine b5G r _ ?_
  split
  ·rename_i a;refine a_R h (a_1 (by omega) ?_);simp[nmB]at a;omega
  ·exact h
theorem b1z(C:List UInt8)(lo hi:Nat):a1F C lo hi<2^26:=b5G _ _ (by omega)
theorem a5e{a b:Nat}(c:a<2^26)(d:b<2^26):a|||b<2^26:=a_R c d
structure Fl where
 dst:Int
 frm:Int
 sec:Int
def a2v(dst:Int)(a:Nat):Nat→List Fl
 |0=> []
 |n+1=>(if a&&&2^(25-n)≠0 then [⟨dst,((25-n:Nat):Int),0⟩]else [])++a2v dst a n
def a4K(C:List UInt8)(e:Rest)(g:Nat):Nat:=if e.label<0 then g|||a1F C e.lo e.hi else g
def a4Q(e:Rest)(a:Nat):List Fl:=if 0≤e.name then a2v e.name a 26++(if 0<e.label then [⟨e.name,-1,e.label⟩]else [])else []
def a2j(C:List UInt8):Nat→Nat→Nat→Nat→Option (List Fl)
 |0,_,_,_=>none
 |f+1,lo,hi,g=>
  if lo<hi then
   match a1K C lo,a2b C lo,a0W C lo with
   |some e,some t,some o=>
    if e.lo≤e.hi∧e.hi≤C.length then
     match a2j C f t.p t.q (a4K C e g),a2j C f t.r t.s (a4K C e g),a2j C f o hi g with
     |some x,some y,some z=>if(a4Q e (a4K C e g)++x++y++z).length<100000 then some (a4Q e (a4K C e g)++x++y++z)else none
     |_,_,_=>none
    else none
   |_,_,_=>none
  else some []
theorem b5g{C:List UInt8}{f k hi g:Nat}{z:List Fl}(h:a2j C f k hi g=some z)(a:hi≤k):z= []:=by
 cases f with
 |zero=>cases h
 |succ f=>
  unfold a2j at h;rw[f_ (by omega)]at h;cases h;rfl
theorem b67{C:List UInt8}{f k hi g:Nat}{z:List Fl}(h:a2j C f k hi g=some z):z.length<100000:=by
 cases f with
 |zero=>cases h
 |succ f=>
  unfold a2j at h;repeat' split at h
  all_goals (first|(cases h;assumption)|(cases h;simp)|cases h)
theorem b3s{C:List UInt8}{f k hi g:Nat}{z:List Fl}(h:a2j C f k hi g=some z)(u:k<hi):
  ∃a e t o x y j,f=a+1∧a1K C k=some e∧a2b C k=some t∧a0W C k=some o∧e.lo≤e.hi∧e.hi≤C.length∧
   a2j C a t.p t.q (a4K C e g)=some x∧a2j C a t.r t.s (a4K C e g)=some y∧a2j C a o hi g=some j∧z=a4Q e (a4K C e g)++x++y++j:=by
 cases f with
 |zero=>cases h
 |succ a=>
  unfold a2j at h;rw[n_ u]at h;cases d:a1K C k with
  |none=>rw[d]at h;cases h
  |some e=>
  cases l:a2b C k with
  |none=>rw[d,l]at h;cases h
  |some t=>
  cases n:a0W C k with
  |none=>rw[d,l,n]at h;cases h
  |some o=>
  rw[d,l,n]at h;simp only at h;by_cases c:e.lo≤e.hi∧e.hi≤C.length
  ·rw[n_ c]at h;cases b:a2j C a t.p t.q (a4K C e g)with
   |none=>rw[b]at h;cases h
   |some x=>
   cases i:a2j C a t.r t.s (a4K C e g)with
   |none=>rw[b,i]at h;cases h
   |some y=>
   cases m:a2j C a o hi g with
   |none=>rw[b,i,m]at h;cases h
   |some j=>
   rw[b,i,m]at h;simp only at h
   split at h
   ·cases h;exact⟨a,e,t,o,x,y,j,rfl,rfl,rfl,rfl,c.1,c.2,b,i,m,rfl⟩
   ·cases h
  ·rw[f_ c]at h;cases h
theorem c0M{dst:Int}{a k:Nat}(b:k<26)(h:a&&&2^k≠0):a2v dst a (26-k)=⟨dst,(k:Int),0⟩::a2v dst a (26-(k+1)):=by
 rw[show 26-k=(26-(k+1))+1 by omega]
 conv=>lhs;unfold a2v
 rw[show 25-(26-(k+1))=k by omega,n_ h];rfl
theorem c2l{dst:Int}{a k:Nat}(b:k<26)(h:a&&&2^k=0):a2v dst a (26-k)=a2v dst a (26-(k+1)):=by
 rw[show 26-k=(26-(k+1))+1 by omega]
 conv=>lhs;unfold a2v
 rw[show 25-(26-(k+1))=k by omega,f_ (by omega)];rfl
theorem c4m{C:List UInt8}{e:Rest}{g:Nat}(a:g<2^26):a4K C e g<2^26:=by
 unfold a4K
 split
 ·exact a5e a (b1z _ _ _)
 ·exact a
def a6F(a:Nat→Nat→Option (Bool×Nat))(x s:Nat):List Fl→Nat→Option (Bool×Nat)
 | [],seen=>some (false,seen)
 |fl::r,seen=>
  if¬fl.dst=(x:Int)then a6F a x s r seen
  else if fl.frm<0∧fl.sec.toNat&&&s≠0 then some (true,seen)
  else if 0≤fl.frm∧seen&&&2^fl.frm.toNat=0 then
   match a fl.frm.toNat seen with
   |none=>none
   |some (true,more)=>some (true,more)
   |some (false,more)=>a6F a x s r more
  else a6F a x s r seen
def a54(C:List UInt8)(l:List Fl)(s:Nat):Nat→Nat→Nat→Option (Bool×Nat)
 |0,_,_=>none
 |f+1,x,seen=>
  match a6d C (x:Int)with
  |none=>none
  |some h=>if 0≤h then some (decide (h.toNat&&&s≠0),seen)else a6F (a54 C l s f) x s l (seen|||2^x)
structure a8g(l:List Fl):Prop where
 frm:∀q∈l,-1≤q.frm∧q.frm<26
 sec:∀q∈l,0≤q.sec∧q.sec<16
theorem b5w:∀(l:List UInt8) (m k:Nat) (r:Nat×Nat),m<16→a3a l m k=some r→r.1<16
 | [],_,_,_,_,h=>by cases h
 |c::t,m,k,r,hm,h=>by
  by_cases a:scB c=true
  ·simp[a3a,a]at h;refine b5w t _ _ _ ?_ h;refine a_R (n:=4) hm (a_1 (by omega) ?_);simp[scB]at a;omega
  ·simp[a3a,a]at h;subst h;exact hm
theorem a7U{C:List UInt8}{i l j:Nat}(h:a3q C i=some (l,j)):l<16:=by
 have a:=a9o h;rw[a76 a]at h
 split at h
 ·cases h;omega
 ·exact b5w _ _ _ _ (by omega) h
theorem b7d{C:List UInt8}{B:Nat}{a:Int} :∀(f i:Nat) (r:Int),a6e C B a f i=some r→ -1≤r∧r<16
 |0,_,_,h=>by cases h
 |f+1,i,r,h=>by
  by_cases hi:i<B
  ·obtain⟨c,o,e,g,k⟩:=b5r h hi;by_cases b:(C[i+1].toNat:Int)-97=a
   ·obtain⟨l,j,d,m⟩:=g b;have:=a7U d;omega
   ·unfold a6e at h;rw[n_ hi,s_ c,e]at h;simp only[b,a_g]at h;exact b7d f o r h
  ·have:=b7f h (by omega);omega
theorem c4d{C:List UInt8}{a r:Int}(h:a6d C a=some r): -1≤r∧r<16:=by
 unfold a6d at h
 split at h
 ·exact b7d _ _ _ h
 ·cases h
def a6Q(C:List UInt8)(l:List Fl)(x:Nat):Nat→Nat→Option Nat
 |0,m=>some m
 |n+1,m=>
  match a54 C l (2^(3-n)) 27 x 0 with
  |none=>none
  |some (true,_)=>a6Q C l x n (m|||2^(3-n))
  |some (false,_)=>a6Q C l x n m
def a4L(C:List UInt8)(l:List Fl):Nat→Option (List Nat)
 |0=>some []
 |n+1=>
  match a6Q C l (25-n) 4 0,a4L C l n with
  |some m,some r=>some (m::r)
  |_,_=>none
def a5x(C:List UInt8):Option (List Fl):=
 match a2U C with
 |none=>none
 |some B=>a2j C (C.length+1) B C.length 0
def a7E(C:List UInt8):Option (List Nat):=
 match a5x C with
 |none=>none
 |some l=>a4L C l 26
theorem b4T{C:List UInt8} :∀(f j k:Nat),a4s C f j=some k→j≤C.length→k≤C.length
 |0,_,_,h,_=>by cases h
 |f+1,j,k,h,hj=>by
  unfold a4s at h;cases e:C[j]? with
  |none=>rw[e]at h;cases h;exact hj
  |some c=>
   rw[e]at h;simp only at h
   split at h
   ·cases a:a0W C j with
    |none=>rw[a]at h;cases h
    |some m=>rw[a]at h;exact b4T f m k h (a2z a)
   ·cases h;exact hj
theorem a5j{C:List UInt8}{k:Nat}(h:a2U C=some k):k≤C.length:=b4T _ _ _ h (by omega)
theorem b0s:a8g []:=⟨fun q h=>(by cases h),fun q h=>(by cases h)⟩
theorem b5F(dst:Int)(a:Nat):∀n,n≤26→a8g (a2v dst a n)
 |0,_=>b0s
 |n+1,hn=>by
  have c:=b5F dst a n (by omega);unfold a2v;constructor
  ·intro q b;rcases G_.mp b with h|h
   ·split at h
    ·simp at h;subst h;simp only;omega
    ·cases h
   ·exact c.frm q h
  ·intro q b;rcases G_.mp b with h|h
   ·split at h
    ·simp at h;subst h;simp
    ·cases h
   ·exact c.sec q h
theorem c01{C:List UInt8}{i:Nat}{e:Rest}(h:a1K C i=some e):e.label<16:=by
 unfold a1K at h;repeat' split at h
 all_goals (first|(cases h;done)|skip)
 all_goals (cases h;simp only)
 all_goals (first|omega|skip)
 ·rename_i r a;have:=a7U (l:=r.1) (j:=r.2) a;omega
 ·rename_i r d a b;have:=a7U (l:=r.1) (j:=r.2) a;omega
theorem b0r{a b:List Fl}(c:a8g a)(d:a8g b):a8g (a++b):=
 ⟨fun q h=>(G_.mp h).elim (c.frm q) (d.frm q),fun q h=>(G_.mp h).elim (c.sec q) (d.sec q)⟩
theorem c67{C:List UInt8}{i:Nat}{e:Rest}(b:Nat)(h:a1K C i=some e):a8g (a4Q e b):=by
 have c:=c01 h;unfold a4Q
 split
 ·refine b0r (b5F _ _ 26 (a_ _)) ?_
  split
  ·exact⟨fun q a=>by simp at a;subst a;simp,fun q a=>by simp at a;subst a;simp only;omega⟩
  ·exact b0s
 ·exact b0s
theorem a7A{C:List UInt8} :∀(f k hi g:Nat) (z:List Fl),a2j C f k hi g=some z→a8g z
 |0,_,_,_,_,h=>by cases h
 |f+1,k,hi,g,z,h=>by
  by_cases c:k<hi
  ·obtain⟨b,e,t,o,x,y,p,m,a,l,n,_,_,d,i,j,rfl⟩:=b3s h c;obtain rfl:f=b:=by omega
   exact b0r (b0r (b0r (c67 _ a) (a7A f _ _ _ _ d)) (a7A f _ _ _ _ i)) (a7A f _ _ _ _ j)
  ·have:=b5g h (by omega);subst this;exact b0s
theorem b4C{C:List UInt8}{l:List Fl}{x:Nat} :∀(n m M:Nat),n≤4→m<16→a6Q C l x n m=some M→M<16
 |0,m,M,_,hm,h=>by cases h;exact hm
 |n+1,m,M,hn,hm,h=>by
  unfold a6Q at h
  split at h
  ·cases h
  ·exact b4C n _ M (by omega) (a_R (n:=4) hm (a_1 (by omega) (by omega))) h
  ·exact b4C n _ M (by omega) hm h
theorem b0B{C:List UInt8}{l:List Fl} :∀(n:Nat) (R:List Nat),a4L C l n=some R→R.length=n∧∀x∈R,x<16
 |0,R,h=>by cases h;simp
 |n+1,R,h=>by
  unfold a4L at h
  split at h
  ·rename_i m r c d;cases h;have b:=b0B n r d;refine⟨by simp[b.1],fun x a=> ?_⟩;rcases X_.mp a with rfl|a
   ·exact b4C 4 0 _ (by omega) (by omega) c
   ·exact b.2 x a
  ·cases h
def a2t(c:UInt8):Bool:=c==41||nmB c||dgB c
def a1f(c:UInt8):Nat:=if c==60||c==61 then 3 else if c==43||c==45 then 2 else if c==42||c==47||c==37 then 1 else 0
structure Sp where
 d:Int
 p:Bool
 b:Int
 r:Nat
def a2m(c:UInt8)(d:Int):Int:=if c==40 then d+1 else if c==41 then d-1 else d
def a3Z(s:Sp)(c:UInt8):Bool:=decide (a2m c s.d≤0)&&s.p&&decide (0<a1f c)&&decide (s.r≤a1f c)
def a2l(s:Sp)(i:Nat)(c:UInt8):Sp:=if a3Z s c then⟨a2m c s.d,a2t c,i,a1f c⟩else⟨a2m c s.d,a2t c,s.b,s.r⟩
def a1b:List UInt8→Nat→Sp→Sp
 | [],_,s=>s
 |c::l,i,s=>a1b l (i+1) (a2l s i c)
def sp0:Sp:=⟨0,false,-1,0⟩
def a1c(C:List UInt8)(lo hi:Nat):Int:=(a1b (seg C lo hi) lo sp0).b
def pB(C:List UInt8)(lo k:Nat):Bool:=if k=lo then false else a2t (C.getD (k-1) 0)
theorem c6p{C:List UInt8}{lo hi k:Nat}{d b h g:Int}{r i:Nat}(l:lo≤k)(c:k<hi)(j:hi≤C.length)
  (a:(a1b (seg C k hi) k ⟨d,pB C lo k,b,r⟩).b=a1c C lo hi) (f:a2l ⟨d,pB C lo k,b,r⟩ k C[k]=⟨h,a2t C[k],g,i⟩):
  (a1b (seg C (k+1) hi) (k+1) ⟨h,pB C lo (k+1),g,i⟩).b=a1c C lo hi:=by
 rw[a25 c j]at a;simp only[a1b]at a;rw[f]at a;have e:pB C lo (k+1)=a2t C[k]:=by
  unfold pB;rw[f_ (by omega)];simp[List.getD,s_ (show k<C.length by omega)]
 rw[e];exact a
theorem c7a{s:Sp}{k:Nat}{c:UInt8}(h:a3Z s c=false):a2l s k c=⟨a2m c s.d,a2t c,s.b,s.r⟩:=by
 unfold a2l;rw[h];rfl
theorem c7b{s:Sp}{k:Nat}{c:UInt8}(h:a3Z s c=true):a2l s k c=⟨a2m c s.d,a2t c,k,a1f c⟩:=by
 unfold a2l;rw[h];rfl
end Go.Proofs.YtdgmoiflahoihaaGreatDoor
