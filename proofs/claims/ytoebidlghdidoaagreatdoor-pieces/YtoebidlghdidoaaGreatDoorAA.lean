namespace Go.Proofs.YtoebidlghdidoaaGreatDoor
open List
section
variable {α:Type _} {i:Nat} {p c p0 p1 p2 p3 p4 p5 p6 p7:Prop}
theorem bU{l:List α}{a:α}(h:l[i]?=some a):∃h:i<l.length,l[i]=a:=List.getElem?_eq_some_iff.1 h
theorem bG{l:List α}(h:i<l.length):l[i]?=some l[i]:=getElem?_eq_getElem h
theorem fM{l:List α}{a:α}:l.getD i a=l[i]?.getD a:=getD_eq_getElem?_getD
theorem dY{a b:α}(h:some a=some b):a=b:=Option.some.inj h
theorem jG{l₁ l₂:List α}(h:i<l₁.length):(l₁++l₂)[i]?=l₁[i]?:=getElem?_append_left h
theorem mW{l₁ l₂:List α}(h:l₁.length<=i):(l₁++l₂)[i]?=l₂[i-l₁.length]?:=getElem?_append_right h
theorem iI{l:List α}{a:α}(h:l[i]?=some a):a∈l:=mem_of_getElem? h
theorem kJ{l:List α}(h:i<l.length):l.drop i=l[i]::l.drop (i+1):=drop_eq_getElem_cons h
theorem dH(n:Nat):n<=n:=Nat.le_refl n
theorem iK(n m:Nat):n<m∨n≥m:=Nat.lt_or_ge n m
theorem lT[h:Decidable p](k:¬p):decide p=false:=decide_eq_false k
theorem aP{h:Decidable c}(hc:c){α:Sort _}{t e:α}:ite c t e=t:=if_pos hc
theorem aU{h:Decidable c}(hc:¬c){α:Sort _}{t e:α}:ite c t e=e:=if_neg hc
theorem a2(h0:p0)(h1:p1):p0∧p1:=⟨h0,h1⟩
theorem a3(h0:p0)(h1:p1)(h2:p2):p0∧p1∧p2:=⟨h0,h1,h2⟩
theorem a4(h0:p0)(h1:p1)(h2:p2)(h3:p3):p0∧p1∧p2∧p3:=⟨h0,h1,h2,h3⟩
theorem a5(h0:p0)(h1:p1)(h2:p2)(h3:p3)(h4:p4):p0∧p1∧p2∧p3∧p4:=⟨h0,h1,h2,h3,h4⟩
theorem a6(h0:p0)(h1:p1)(h2:p2)(h3:p3)(h4:p4)(h5:p5):p0∧p1∧p2∧p3∧p4∧p5:=⟨h0,h1,h2,h3,h4,h5⟩
theorem a7(h0:p0)(h1:p1)(h2:p2)(h3:p3)(h4:p4)(h5:p5)(h6:p6):p0∧p1∧p2∧p3∧p4∧p5∧p6:=⟨h0,h1,h2,h3,h4,h5,h6⟩
theorem a8(h0:p0)(h1:p1)(h2:p2)(h3:p3)(h4:p4)(h5:p5)(h6:p6)(h7:p7):p0∧p1∧p2∧p3∧p4∧p5∧p6∧p7:=⟨h0,h1,h2,h3,h4,h5,h6,h7⟩
theorem a9{p8:Prop}(h0:p0)(h1:p1)(h2:p2)(h3:p3)(h4:p4)(h5:p5)(h6:p6)(h7:p7)(h8:p8):p0∧p1∧p2∧p3∧p4∧p5∧p6∧p7∧p8:=⟨h0,h1,h2,h3,h4,h5,h6,h7,h8⟩
theorem eX{α:Sort _}(a:α):∃n,n=a:=⟨a,rfl⟩
def Hd(p:Prop):Prop:=p
theorem Hd.o(h:Hd p):p:=h
end
namespace aI
abbrev By:=List UInt8
def ok(b:Bool):Option Unit:=if b then some () else none
structure R4 where
 a:Nat
 b:Nat
 c:Nat
 d:Nat
def R4.get(r:R4):Nat->Option Nat
 | 0=>some r.a | 1=>some r.b | 2=>some r.c | 3=>some r.d | _=>none
def lG(c:UInt8):Bool:=decide (97<=c.toNat∧c.toNat<=100)
def isS(c:UInt8):Bool:=lG c||decide (65<=c.toNat∧c.toNat<=68)
def num(c:UInt8):Nat:=if lG c then c.toNat-97 else 0
def common:By->By->Nat
 | x::v,y::w=>if x=y then common v w+1 else 0
 | _,_=>0
structure Place where
 t:List Bool
 n:Nat
structure Piece where
 e:Bool
 f:Nat
 l:Nat
def bit(p:Nat):Nat:=1 <<< p
def has(s p:Nat):Bool:=!(decide (s &&& bit p=0))
def iP(ps:List Place)(fr tt:Nat)(i:Nat):List Place:=match ps with
 | []=>[]
 | p::ps=>(if has fr i then { p with n:=p.n ||| tt } else p)::iP ps fr tt (i+1)
def bC(ps:List Place)(x y:Piece):Piece × List Place:=(⟨x.e&&y.e,if x.e then x.f ||| y.f else x.f,if y.e then y.l ||| x.l else y.l⟩,iP ps x.l y.f 0)
def iZ(ps:List Place)(t:List Bool):Option (Piece × List Place):=if ps.length<32 then some (⟨false,bit ps.length,bit ps.length⟩,ps++[⟨t,0⟩]) else none
def sJ(ps:List Place)(x:Piece):Piece × List Place:=({ x with e:=true },iP ps x.l x.f 0)
def mJ(x y:Piece):Piece:=⟨x.e||y.e,x.f ||| y.f,x.l ||| y.l⟩
def allOf:By->List Bool->List Bool
 | [],t=>t
 | c::cs,t=>allOf cs (t.set (num c) true)
def aX:List Bool:=[false,false,false,false]
def dS(w:By):List Bool:=(allOf w aX).map not
def rising:By->Bool
 | a::b::r=>decide (a.toNat<b.toNat)&&rising (b::r)
 | _=>true
structure PS where
 k:Nat
 bad:Bool
 ps:List Place
def sees(s:By)(c:UInt8)(p:PS):Bool:=!p.bad&&decide (s[p.k]?=some c)
def eY(s:By)(c:UInt8)(p:PS):PS:=if sees s c p then { p with k:=p.k+1 } else { p with bad:=true }
def iW(s:By)(c:UInt8)(p:PS):PS:=if sees s c p then { p with k:=p.k+1 } else p
def nP(p:PS):PS:={ p with bad:=true }
def ku(P:UInt8->Bool)(s:By)(p:PS):By × PS:=let r:=(s.drop p.k).takeWhile P;(r,{ p with k:=p.k+r.length })
def dN(s:By)(p:PS):By × PS:=match s[p.k]? with
 | none=>([],nP p)
 | some c=>if lG c then ([c],{ p with k:=p.k+1 }) else ([],nP p)
def bW:By->Piece->List Place->Option (Piece × List Place)
 | [],w,ps=>some (w,ps)
 | c::cs,w,ps=>match iZ ps (allOf [c] aX)with
  | none=>none
  | some (q,ps1)=>let r:=bC ps1 w q;bW cs r.1 r.2
def nN(s:By)(p:PS):Bool:=p.bad||decide (p.k=s.length)||sees s 124 p||sees s 41 p
def lW(s:By):Nat->Piece->PS->Option (Piece × PS)
 | 0,_,_=>none
 | f+1,x,p=>if sees s 42 p then
   let r:=sJ p.ps x
   lW s f r.1 { p with k:=p.k+1,ps:=r.2 }
  else some (x,p)
def IV(s:By)(p:PS):Option (Piece × PS):=let p1:=eY s 91 p;let o:=sees s 94 p1;let p2:=iW s 94 p1;let r:=ku lG s p2;let p3:=eY s 93 r.2;let p4:=if r.1.isEmpty||!rising r.1 then nP p3 else p3
 match iZ p4.ps (if o then dS r.1 else allOf r.1 aX)with
 | none=>none
 | some (q,ps)=>some (q,{ p4 with ps:=ps })
def fB(s:By):Nat->Nat->Nat->Piece->PS->Option (Piece × PS)
 | 0,_,_,_,_=>none
 | f+1,0,d,_,p=>match fB s f 2 d ⟨true,0,0⟩ p with
  | none=>none
  | some (w,p1)=>fB s f 1 d w p1
 | f+1,1,d,w,p=>if sees s 124 p then
   match fB s f 2 d ⟨true,0,0⟩ { p with k:=p.k+1 } with
   | none=>none
   | some (r,p1)=>fB s f 1 d (mJ w r) p1
  else some (w,p)
 | f+1,2,d,w,p=>if nN s p then some (w,p) else
   match fB s f 3 d ⟨false,0,0⟩ p with
   | none=>none
   | some (x,p1)=>match lW s f x p1 with
    | none=>none
    | some (x,p2)=>let r:=bC p2.ps w x;fB s f 2 d r.1 { p2 with ps:=r.2 }
 | f+1,_,d,_,p=>
  if sees s 40 p then
   if 3<=d then some (⟨false,0,0⟩,nP p) else
   match fB s f 0 (d+1) ⟨false,0,0⟩ (eY s 40 p)with
   | none=>none
   | some (x,p1)=>some (x,eY s 41 p1)
  else if sees s 91 p then IV s p
  else if sees s 46 p then
   match iZ p.ps (dS [])with
   | none=>none
   | some (q,ps)=>some (q,{ p with k:=p.k+1,ps:=ps })
  else
   let r:=dN s p
   match iZ r.2.ps (allOf r.1 aX)with
   | none=>none
   | some (q,ps)=>some (q,{ r.2 with ps:=ps })
def DF(s:By)(f d:Nat)(p:PS):Option (Piece × PS):=fB s f 0 d ⟨false,0,0⟩ p
def Ih(s:By)(f d:Nat)(w:Piece)(p:PS):Option (Piece × PS):=fB s f 1 d w p
def Jw(s:By)(f d:Nat)(w:Piece)(p:PS):Option (Piece × PS):=fB s f 2 d w p
def NR(s:By)(f d:Nat)(p:PS):Option (Piece × PS):=fB s f 3 d ⟨false,0,0⟩ p
theorem aC3(s:By)(d:Nat)(p:PS):DF s 0 d p=none:=rfl
theorem aC4(s:By)(f d:Nat)(p:PS):DF s (f+1) d p=(match Jw s f d ⟨true,0,0⟩ p with
  | none=>none
  | some (w,p1)=>Ih s f d w p1):=rfl
theorem aBi(s:By)(d:Nat)(w:Piece)(p:PS):Ih s 0 d w p=none:=rfl
theorem aBj(s:By)(f d:Nat)(w:Piece)(p:PS):Ih s (f+1) d w p=(if sees s 124 p then
   match Jw s f d ⟨true,0,0⟩ { p with k:=p.k+1 } with
   | none=>none
   | some (r,p1)=>Ih s f d (mJ w r) p1
  else some (w,p)):=rfl
theorem aC5(s:By)(d:Nat)(w:Piece)(p:PS):Jw s 0 d w p=none:=rfl
theorem aC6(s:By)(f d:Nat)(w:Piece)(p:PS):Jw s (f+1) d w p=(if nN s p then some (w,p) else
   match NR s f d p with
   | none=>none
   | some (x,p1)=>match lW s f x p1 with
    | none=>none
    | some (x,p2)=>let r:=bC p2.ps w x;Jw s f d r.1 { p2 with ps:=r.2 }):=rfl
theorem aBk(s:By)(d:Nat)(p:PS):NR s 0 d p=none:=rfl
structure Rule where
 fr:By
 tt:By
 ps:List Place
 wh:Piece
def Uj:Nat:=100
def uX(s:By):Option (Option Rule):=let r:=ku lG s ⟨0,false,[]⟩;let p1:=eY s 62 r.2;let t:=ku isS s p1
 if r.1.isEmpty||decide (4<r.1.length)||decide (4<t.1.length) then some none else
 match bW r.1 ⟨true,0,0⟩ []with
 | none=>none
 | some (m,ps)=>
  let p2:PS:={ t.2 with ps:=ps };let fin (m:Piece) (p:PS):Option (Option Rule):=if p.bad||decide (p.k<s.length) then some none else some (some ⟨r.1,t.1,p.ps,m⟩)
  if sees s 47 p2 then
   let p3:PS:={ p2 with k:=p2.k+1 }
   if 14<s.length-p3.k then fin (bC p3.ps m ⟨false,0,0⟩).1 (nP { p3 with ps:=(bC p3.ps m ⟨false,0,0⟩).2 }) else
   match DF s Uj 0 p3 with
   | none=>none
   | some (c,p4)=>let j:=bC p4.ps m c;fin j.1 { p4 with ps:=j.2 }
  else fin m p2
def eP:By->Nat
 | []=>0
 | c::cs=>if c=10 then 0 else eP cs+1
def cZ:Nat->By->Nat->List Rule->Option (List Rule × Nat × Nat)
 | 0,_,_,_=>none
 | f+1,s,n,rs=>if s.isEmpty then
   (if n<1∨4<n then some ([],0,2) else some (rs,0,0))
  else
   let e:=eP s
   match uX (s.take e)with
   | none=>none
   | some none=>some ([],n+1,1)
   | some (some r)=>if e=s.length then some ([],n+1,1) else
    cZ f (s.drop (e+1)) (n+1) (if n+1<=4 then rs++[r] else rs)
end aI
namespace M2
open aI (By R4 Place Piece Rule bit has num lG isS common aX ok)
def fD(ps:List aI.Place):Nat:=bit ps.length
def iR(l st last:Nat):List aI.Place->Nat->Nat->Option Nat
 | [],_,nx=>some nx
 | p::ps,i,nx=>if !has st i||!(p.t.getD l false) then iR l st last ps (i+1) nx
  else if has last i then none else iR l st last ps (i+1) (nx ||| p.n)
def BZ(h:Nat):Option Nat->Nat
 | none=>h
 | some x=>x
def oL(ps:List aI.Place)(wh:Piece)(st l:Nat):Nat:=if st=fD ps then st else BZ (fD ps) (iR l st wh.l ps 0 0)
structure Auto where
 nx:List R4
 hit:List Bool
structure Meet where
 met:List Nat
 nums:List Nat
def dZ(m:Meet)(x:Nat):Option (Nat × Meet):=match m.nums[x]? with
 | none=>none
 | some 0=>some (m.met.length,⟨m.met++[x],m.nums.set x (m.met.length+1)⟩)
 | some (v+1)=>some (v,m)
def four(f:Nat->Meet->Option (Nat × Meet))(m:Meet):Option (R4 × Meet):=match f 0 m with
 | none=>none
 | some (a,m)=>match f 1 m with
  | none=>none
  | some (b,m)=>match f 2 m with
   | none=>none
   | some (c,m)=>match f 3 m with
    | none=>none
    | some (d,m)=>some (⟨a,b,c,d⟩,m)
def kQ(ps:List aI.Place)(wh:Piece):Nat->Nat->Meet->Auto->Option Auto
 | 0,_,_,_=>none
 | f+1,i,m,a=>match m.met[i]? with
  | none=>some a
  | some st=>match four (fun l m=>dZ m (oL ps wh st l)) m with
   | none=>none
   | some (r,m)=>kQ ps wh f (i+1) m ⟨a.nx++[r],a.hit++[decide (st=fD ps)]⟩
def walk(r:Rule):Option Auto:=if 18<r.ps.length then none else
 match dZ ⟨[],replicate (fD r.ps+1) 0⟩ (if r.wh.e then fD r.ps else r.wh.f)with
 | none=>none
 | some (_,m)=>kQ r.ps r.wh (fD r.ps+2) 0 m ⟨[],[]⟩
def iF(h0:Bool):List Bool->List Nat × Nat
 | []=>([],1)
 | h::hs=>let r:=iF h0 hs;if h=h0 then (0::r.1,r.2) else (1::r.1,2)
def iJ(a:Auto):List Nat × Nat:=iF (a.hit.getD 0 false) a.hit
def gI(of:List Nat)(m:Nat):List Nat->List Nat->List Nat->List Nat->Nat->Option (List Nat × Nat)
 | x::xs,t::ts,met,fin,c=>match of[t]? with
  | none=>none
  | some y=>match met[x*m+y]? with
   | none=>none
   | some 0=>gI of m xs ts (met.set (x*m+y) (c+1)) (fin++[c]) (c+1)
   | some (u+1)=>gI of m xs ts met (fin++[u]) c
 | [],[],_,fin,c=>some (fin,c)
 | _,_,_,_,_=>none
def sK(c:List Nat × Nat)(ts:List Nat):Option (List Nat × Nat):=gI c.1 c.2 c.1 ts (replicate (c.2*c.2) 0) [] 0
def aV(nx:List R4)(most:Nat):Nat->List Nat × Nat->Option (List Nat × Nat)
 | 0,c=>some c
 | f+1,c=>if most<c.2 then some c else
  match sK c (nx.map fun r=>(r.get (3-f)).getD 0)with
  | none=>none
  | some c=>aV nx most f c
def eU(nx:List R4)(most:Nat):Nat->List Nat × Nat->Option (List Nat × Nat)
 | 0,_=>none
 | f+1,c=>if most<c.2 then some c else
  match aV nx most 4 c with
  | none=>none
  | some c'=>if c'.2=c.2 then some c' else eU nx most f c'
def jv(of:List Nat):List Nat->List R4->List Bool->Auto->Option Auto
 | x::xs,r::rs,h::hs,a=>if x<a.nx.length then jv of xs rs hs a else
  match of[r.a]?,of[r.b]?,of[r.c]?,of[r.d]? with
  | some p,some q,some u,some v=>jv of xs rs hs ⟨a.nx++[⟨p,q,u,v⟩],a.hit++[h]⟩
  | _,_,_,_=>none
 | [],_,_,a=>some a
 | _,_,_,_=>none
def jM(r:Rule):Option (Option Auto):=match walk r with
 | none=>none
 | some a=>match eU a.nx 60 100 (iJ a)with
  | none=>none
  | some c=>if 60<c.2 then some none else (jv c.1 c.1 a.nx a.hit ⟨[],[]⟩).map some
def pX(a b:Auto):Auto:=let n:=a.nx.length;⟨a.nx++b.nx.map fun r=>⟨r.a+n,r.b+n,r.c+n,r.d+n⟩,a.hit++b.hit⟩
structure dI where
 ahead:List R4
 words:List By
 hits:List (List Bool)
def jR(l:List Bool):List Bool:=(l++replicate 60 false).take 60
def bF(h:List Bool)(l:Nat):List R4->Nat->Option (List Bool)
 | _,0=>some []
 | [],n+1=>(bF h l [] n).map (false::·)
 | r::rs,n+1=>match r.get l with
  | none=>none
  | some t=>match h[t]? with
   | none=>none
   | some b=>(bF h l rs n).map (b::·)
def find(hs:List (List Bool))(h:List Bool):Nat->Nat
 | i=>match hs with
  | []=>i
  | x::xs=>if x=h then i else find xs h (i+1)
def aT(l:Nat):By:=[UInt8.ofNat (97+l)]
def qA(a:Auto)(i l:Nat)(k:dI):Option (Nat × dI):=match k.hits[i]? with
 | none=>none
 | some h=>match bF h l a.nx 60 with
  | none=>none
  | some h'=>
   let n:=find k.hits h' 0;let hits:=if n=k.hits.length then k.hits++[h'] else k.hits
   if n=k.words.length then
    match k.words[i]? with
    | none=>none
    | some w=>some (n,⟨k.ahead,k.words++[aT l++w],hits⟩)
   else some (n,⟨k.ahead,k.words,hits⟩)
def jH(a:Auto):Nat->Nat->dI->Option (Option dI)
 | 0,_,_=>none
 | f+1,i,k=>if k.hits.length<=i then some (some k) else
  match qA a i 0 k with
  | none=>none
  | some (p,k)=>match qA a i 1 k with
   | none=>none
   | some (q,k)=>match qA a i 2 k with
    | none=>none
    | some (u,k)=>match qA a i 3 k with
     | none=>none
     | some (v,k)=>if 24<k.hits.length then some none else jH a f (i+1) { k with ahead:=k.ahead++[⟨p,q,u,v⟩] }
def oN(a:Auto):Option (Option dI):=jH a 30 0 ⟨[],[[]],[jR a.hit]⟩
structure View where
 k:dI
 jX:List (Nat × By)
def lX(k:dI)(kind st:Nat):Bool:=(k.hits.getD kind []).getD st false
def dU(k:dI)(kind:Nat):List Rule->List Nat->Nat × By->Option (Nat × By)
 | r::rs,s::ss,d=>dU k kind rs ss (if lX k kind s&&decide (d.1<r.fr.length) then (r.fr.length,r.tt) else d)
 | [],_,d=>some d
 | _,_,_=>none
def fQ(rs:List Rule)(ss:List Nat)(k:dI):Nat->Nat->Option (List (Nat × By))
 | 0,_=>some []
 | n+1,i=>match dU k i rs ss (0,[])with
  | none=>none
  | some d=>(fQ rs ss k n (i+1)).map (d::·)
def aW(v:View)(kind tc l:Nat):By × Nat:=match v.jX[kind]? with
 | none=>([],0)
 | some d=>if 4<=l then ([],0) else if 0<tc then ([],tc-1) else if 0<d.1 then (d.2,d.1-1) else (aT l,0)
def iw(v:View):By->Nat->Option (List Nat × Nat)
 | [],b=>some ([],b)
 | c::cs,b=>match iw v cs b with
  | none=>none
  | some (ks,b')=>match v.k.ahead[b']? with
   | none=>none
   | some r=>match r.get (num c)with
    | none=>none
    | some k=>some (k::ks,k)
def oO(v:View):By->List Nat->By->Nat->By × Nat
 | c::cs,k::ks,acc,tc=>let s:=aW v k tc (num c);oO v cs ks (acc++s.1) s.2
 | _,_,acc,tc=>(acc,tc)
def qU(v:View)(w:By)(behind tc:Nat):Option (By × Nat):=if v.k.ahead.length<=behind then some ([],tc) else
 match iw v w behind with
 | none=>none
 | some (ks,_)=>some (oO v w ks [] tc)
abbrev bP:=List (List By)
abbrev Apart:=List (List (List Bool))
def xq(v:View)(w:By):Option (List By):=match qU v w 0 0,qU v w 0 1,qU v w 0 2,qU v w 0 3 with
 | some a,some b,some c,some d=>some [a.1,b.1,c.1,d.1]
 | _,_,_,_=>none
def oP(v:View):List By->Option bP
 | []=>some []
 | w::ws=>match xq v w with
  | none=>none
  | some x=>(oP v ws).map (x::·)
def lU(s:bP)(i j:Nat):Option By:=(s[i]?).bind (·[j]?)
def set2(s:bP)(i j:Nat)(x:By):bP:=s.modify i (fun r=>r.set j x)
def oQ(v:View)(kind l next:Nat):Nat->Nat->bP->Bool->Option (Bool × bP)
 | 0,_,s,b=>some (b,s)
 | n+1,tc,s,b=>
  match lU s kind tc with
  | none=>none
  | some su=>let st:=aW v kind tc l
   match lU s next st.2 with
   | none=>none
   | some x=>let c:=common su (st.1++x)
    if c<su.length then oQ v kind l next n (tc+1) (set2 s kind tc (su.take c)) true else oQ v kind l next n (tc+1) s b
def DJ(v:View)(k:Nat)(r:R4):Nat->bP->Bool->Option (Bool × bP)
 | 0,s,b=>some (b,s)
 | n+1,s,b=>match r.get (3-n)with
  | none=>none
  | some longer=>match oQ v longer (3-n) k 4 0 s false with
   | none=>none
   | some (x,s)=>DJ v k r n s (b||x)
def Dw(v:View):List R4->Nat->bP->Bool->Option (Bool × bP)
 | [],_,s,b=>some (b,s)
 | r::rs,k,s,b=>match DJ v k r 4 s b with
  | none=>none
  | some (b,s)=>Dw v rs (k+1) s b
def lY(v:View):Nat->bP->Option bP
 | 0,_=>none
 | f+1,s=>match Dw v v.k.ahead 0 s false with
  | none=>none
  | some (b,s)=>if b then lY v f s else some s
def nS(v:View)(su:bP)(kind tc l next:Nat):Option (By × Nat):=let st:=aW v kind tc l
 match lU su next st.2,lU su kind tc with
 | some x,some y=>let whole:=st.1++x
  if whole.length<y.length then some ([],st.2) else some (whole.drop y.length,st.2)
 | _,_=>none
def xH(a:Apart)(i j k:Nat):Option Bool:=((a[i]?).bind (·[j]?)).bind (·[k]?)
def sN(a:Apart)(i j k:Nat):Apart:=a.modify i (fun r=>r.modify j (fun q=>q.set k true))
def qo(v:View)(su:bP)(kind l next x:Nat)(sx:By × Nat):Nat->Nat->Apart->Bool->Option (Bool × Apart)
 | 0,_,a,g=>some (g,a)
 | n+1,y,a,g=>match nS v su kind y l next with
  | none=>none
  | some sy=>match (if sx.1=sy.1 then xH a next sx.2 sy.2 else some true)with
   | none=>none
   | some differ=>match (if differ then (xH a kind x y).map not else some false)with
    | none=>none
    | some true=>qo v su kind l next x sx n (y+1) (sN a kind x y) true
    | some false=>qo v su kind l next x sx n (y+1) a g
def qp(v:View)(su:bP)(kind l next:Nat):Nat->Nat->Apart->Bool->Option (Bool × Apart)
 | 0,_,a,g=>some (g,a)
 | n+1,x,a,g=>match nS v su kind x l next with
  | none=>none
  | some sx=>match qo v su kind l next x sx 4 0 a g with
   | none=>none
   | some (g,a)=>qp v su kind l next n (x+1) a g
def YS(v:View)(su:bP)(k:Nat)(r:R4):Nat->Apart->Bool->Option (Bool × Apart)
 | 0,s,b=>some (b,s)
 | n+1,s,b=>match r.get (3-n)with
  | none=>none
  | some longer=>match qp v su longer (3-n) k 4 0 s false with
   | none=>none
   | some (x,s)=>YS v su k r n s (b||x)
def Yh(v:View)(su:bP):List R4->Nat->Apart->Bool->Option (Bool × Apart)
 | [],_,s,b=>some (b,s)
 | r::rs,k,s,b=>match YS v su k r 4 s b with
  | none=>none
  | some (b,s)=>Yh v su rs (k+1) s b
def nT(v:View)(su:bP):Nat->Apart->Option Apart
 | 0,_=>none
 | f+1,s=>match Yh v su v.k.ahead 0 s false with
  | none=>none
  | some (b,s)=>if b then nT v su f s else some s
structure Uk where
 v:View
 su:bP
 ap:Apart
def oU(v:View):Option Uk:=match oP v v.k.words with
 | none=>none
 | some s=>match lY v 10000 s with
  | none=>none
  | some s=>(nT v s 1000 (replicate s.length [aX,aX,aX,aX])).map fun a=>⟨v,s,a⟩
def mM(ap:Apart)(k tc:Nat):Nat->Nat->Option Nat
 | 0,_=>none
 | f+1,le=>if tc<=le then some le else
  match xH ap k le tc with
  | none=>none
  | some b=>if b then mM ap k tc f (le+1) else some le
structure aK where
 tc:List Nat
 held:List By
def bJ:aK:=⟨replicate 24 0,replicate 24 []⟩
def jk:bP->Nat->aK->Option aK
 | [],_,b=>some b
 | r::rs,k,b=>match r[0]? with
  | none=>none
  | some x=>if k<24 then jk rs (k+1) { b with held:=b.held.set k x } else none
def jA:By->List By->By
 | a,[]=>a
 | a,w::ws=>jA (a.take (common a w)) ws
def jS:List By->By
 | []=>[]
 | w::ws=>jA w (w::ws)
def oW(m:Nat):Nat->Nat->List By->Option (List By)
 | 0,_,h=>some h
 | n+1,k,h=>match h[k]? with
  | none=>none
  | some x=>if x.length<m then none else oW m n (k+1) (h.set k (x.drop m))
structure iL where
 en:By
 sd:List By
 nx:List Nat
structure Pair where
 x:Nat
 s:Nat
 y:Nat
 t:Nat
structure Stp where
 fr:Nat
 tt:Nat
 l:Nat
 s0:By
 s1:By
def silent(s:Stp):Bool:=s.s0.isEmpty&&s.s1.isEmpty
def bf(on:List Int)(round:Nat):List Stp->Nat->List Int->List Nat->Bool->Option (List Int × List Nat × Bool)
 | [],_,ow,far,gr=>some (ow,far,gr)
 | s::ss,i,ow,far,gr=>
  match on[s.tt]?,far[s.tt]?,far[s.fr]? with
  | some o,some ft,some ff=>
   let there:=decide (round=1)&&!silent s&&decide (0<=o);let nearer:=decide (1<round)&&decide (ft=round-1)
   if decide (ff=0)&&(there||nearer) then bf on round ss (i+1) (ow.set s.fr (i:Int)) (far.set s.fr round) true
   else bf on round ss (i+1) ow far gr
  | _,_,_=>none
def Af(on:List Int)(steps:List Stp):Nat->Nat->List Int->List Nat->Option (List Int)
 | 0,_,_,_=>none
 | f+1,round,ow,far=>match bf on round steps 0 ow far false with
  | none=>none
  | some (ow,far,gr)=>if gr then Af on steps f (round+1) ow far else some ow
def bM:List Int->Nat
 | []=>0
 | x::xs=>(if 0<=x then 1 else 0)+bM xs
structure fH where
 pair:Nat
 h0:By
 h1:By
 fr:Int
 l:Nat
 before:Int
def seen(found:List fH)(h0 h1:By):Nat->Int->Option Bool
 | 0,_=>none
 | f+1,i=>if i<0 then some false else
  match found[i.toNat]? with
  | none=>none
  | some x=>if x.h0=h0&&x.h1=h1 then some true else seen found h0 h1 f x.before
structure aA where
 tt:By
 ro:By
 re:By
def Ba(w:aA)(i:Nat):Nat:=if i<w.tt.length then (w.tt.getD i 0).toNat else if w.ro.isEmpty then 0 else (w.ro.getD ((i-w.tt.length)%w.ro.length) 0).toNat
def outgrow(one other:aA):Option (Nat × Bool):=let behind:Int:=(other.tt.length:Int)+other.re.length-one.tt.length-one.re.length;let gain:Int:=(one.ro.length:Int)-other.ro.length
 if behind<=0∨gain<=0 then some (0,decide (0<gain)) else some (((behind+gain-1)/gain).toNat,true)
def iT(one other:aA)(least size:Nat):Nat->Nat->Nat × Bool
 | 0,_=>(0,false)
 | n+1,i=>if Ba one i=Ba other i then iT one other least size n (i+1)
  else if i<least then (0,true) else ((i-least)/size+1,true)
def ahead'(one other:aA):Option (Nat × Bool):=if one.ro.length=other.ro.length then
  let size:=one.ro.length
  if size=0 then some (0,false) else
  some (iT one other (min one.tt.length other.tt.length) size (max one.tt.length other.tt.length+size) 0)
 else if one.ro.length<other.ro.length then outgrow other one else outgrow one other
structure pY where
 x:By
 y:By
 z1:By
 z2:By
 c:Nat
end M2
namespace M3
open M2
open aI (R4 Rule)
def qV(b:Auto):Bool:=decide (b.nx.length<=60)&&decide (0<b.nx.length)&&b.nx.all fun r=>decide (r.a<=1000)&&decide (r.b<=1000)&&decide (r.c<=1000)&&decide (r.d<=1000)
def jO:List Rule->Auto->List Nat->Option (Option (Auto × List Nat))
 | [],a,ss=>some (some (a,ss))
 | r::rs,a,ss=>match jM r with
  | none=>none
  | some none=>some none
  | some (some b)=>if qV b then jO rs (pX a b) (ss++[a.nx.length]) else none
def IW(v:View):Bool:=decide (v.jX.length=v.k.ahead.length)&&decide (v.k.ahead.length<=24)&&decide (v.k.hits.length=v.k.ahead.length)&&(v.k.ahead.all fun r=>decide (r.a<v.k.ahead.length)&&decide (r.b<v.k.ahead.length)&&decide (r.c<v.k.ahead.length)&&decide (r.d<v.k.ahead.length))&&v.jX.all fun d=>decide (d.1<=4)&&decide (d.2.length<=4)
def view(rs:List Rule):Option (Option View):=match jO rs ⟨[],[]⟩ []with
 | none=>none
 | some none=>some none
 | some (some (a,ss))=>if 60<a.nx.length then some none else
  if a.nx.isEmpty then none else
  if !(ss.all fun s=>decide (s<60)) then none else
  match oN a with
  | none=>none
  | some none=>some none
  | some (some k)=>match fQ rs ss k k.ahead.length 0 with
   | none=>none
   | some d=>if IW ⟨k,d⟩ then some (some ⟨k,d⟩) else none
def uY(x y:aK):Bool:=decide (x.tc=y.tc)&&decide (x.held=y.held)
def fU(bs:List aK)(b:aK)(i:Nat):Nat:=match bs with
 | []=>i
 | x::xs=>if uY x b then i else fU xs b (i+1)
def jw(v:View)(su:bP)(ap:Apart)(b:aK)(l:Nat):List R4->Nat->aK->Option aK
 | [],_,n=>some n
 | r::rs,k,n=>match r.get l with
  | none=>none
  | some before=>match b.tc[before]?,b.held[before]? with
   | some tc,some h=>if tc<4∧h.length<=100000 then
     match nS v su before tc l k with
     | none=>none
     | some (said,left)=>match mM ap k left 10 0 with
      | none=>none
      | some le=>if k<24∧said.length<=100000 then jw v su ap b l rs (k+1) ⟨n.tc.set k le,n.held.set k (h++said)⟩ else none
    else none
   | _,_=>none
def follow(v:View)(su:bP)(ap:Apart)(b:aK)(l:Nat):Option (List UInt8 × aK):=match jw v su ap b l v.k.ahead 0 bJ with
 | none=>none
 | some n=>if !(n.held.all fun x=>decide (x.length<=1000000)) then none else
  match oW (jS (n.held.take su.length)).length su.length 0 n.held with
  | none=>none
  | some h=>some (jS (n.held.take su.length),{ n with held:=h })
def Qw(v:View)(su:bP)(ap:Apart)(b:aK):Nat->List (List UInt8)->List Nat->List aK->Option (List (List UInt8) × List Nat × List aK)
 | 0,sd,nx,met=>some (sd,nx,met)
 | n+1,sd,nx,met=>match follow v su ap b (3-n)with
  | none=>none
  | some (said,nb)=>Qw v su ap b n (sd++[said]) (nx++[fU met nb 0]) (if fU met nb 0=met.length then met++[nb] else met)
def dD(v:View)(su:bP)(ap:Apart)(limit:Nat):Nat->Nat->List aK->List iL->Option (Option (List iL))
 | 0,_,_,_=>none
 | f+1,i,met,aC=>match met[i]? with
  | none=>some (some aC)
  | some b=>if limit<met.length then some none else
   match b.held[0]?,Qw v su ap b 4 [] [] met with
   | some en,some (sd,nx,met)=>dD v su ap limit f (i+1) met (aC++[⟨en,sd,nx⟩])
   | _,_=>none
def states(v:View)(limit:Nat):Option (Option (List iL)):=match oU v with
 | none=>none
 | some o=>match jk o.su 0 bJ with
  | none=>none
  | some b=>dD o.v o.su o.ap limit 1000 0 [b] []
def placeOf(n:Nat)(p:Pair):Nat:=(p.x*4+p.s)*(n*4)+p.y*4+p.t
def oZ(n:Nat)(pairs:List Pair)(nums:List Nat)(p:Pair):Option (Nat × List Pair × List Nat):=match nums[placeOf n p]? with
 | none=>none
 | some 0=>some (pairs.length,pairs++[p],nums.set (placeOf n p) (pairs.length+1))
 | some (u+1)=>some (u,pairs,nums)
structure Gr where
 pairs:List Pair
 nums:List Nat
 steps:List Stp
def jy(n fr l:Nat)(p:Pair)(sa sb:List UInt8 × Nat)(x:Nat):List R4->Nat->Gr->Option Gr
 | [],_,g=>some g
 | r::rs,y,g=>match r.get l with
  | none=>none
  | some k=>if k=p.y then
    if g.pairs.length<=50000∧g.steps.length<=1000000000 then
     match oZ n g.pairs g.nums ⟨x,sa.2,y,sb.2⟩ with
     | none=>none
     | some (tt,ps,ns)=>jy n fr l p sa sb x rs (y+1) ⟨ps,ns,g.steps++[⟨fr,tt,l,sa.1,sb.1⟩]⟩
    else none
   else jy n fr l p sa sb x rs (y+1) g
def kR(n fr l:Nat)(p:Pair)(sa sb:List UInt8 × Nat)(all:List R4):List R4->Nat->Gr->Option Gr
 | [],_,g=>some g
 | r::rs,x,g=>match r.get l with
  | none=>none
  | some k=>if k=p.x then
    match jy n fr l p sa sb x all 0 g with
    | none=>none
    | some g=>kR n fr l p sa sb all rs (x+1) g
   else kR n fr l p sa sb all rs (x+1) g
def lead(v:View)(fr l:Nat)(g:Gr):Option Gr:=match g.pairs[fr]? with
 | none=>none
 | some p=>if p.x<v.k.ahead.length∧p.s<4∧p.y<v.k.ahead.length∧p.t<4 then kR v.k.ahead.length fr l p (aW v p.x p.s l) (aW v p.y p.t l) v.k.ahead v.k.ahead 0 g else none
def IX(np:Nat)(steps:List Stp)(on:List Int):Option (List Int):=Af on steps 10000 1 (replicate np (-1)) (replicate np 0)
def Qz(np:Nat)(o:List Int):Bool:=decide (o.length=np)&&o.all fun x=>decide (-1<=x)&&decide (x<=10000000000)
def jB(np:Nat)(steps:List Stp):Nat->Option Nat->Nat->List Int->Option (List Int)
 | 0,_,_,_=>none
 | f+1,before,count,on=>if before=some count then some on else
  match IX np steps on with
  | none=>none
  | some o=>if Qz np o then jB np steps f (some count) (bM o) o else none
def lH(n x:Nat):Nat->Nat->Gr->Option Gr
 | 0,_,g=>some g
 | c+1,y,g=>if g.pairs.length<=50000 then
   match oZ n g.pairs g.nums ⟨x,0,y,0⟩ with
   | none=>none
   | some (_,ps,ns)=>lH n x c (y+1) ⟨ps,ns,g.steps⟩
  else none
def kS(n:Nat):Nat->Nat->Gr->Option Gr
 | 0,_,g=>some g
 | c+1,x,g=>match lH n x (n-(x+1)) (x+1) g with
  | none=>none
  | some g=>kS n c (x+1) g
def kT(v:View)(fr:Nat):Nat->Gr->Option Gr
 | 0,g=>some g
 | c+1,g=>match lead v fr (3-c) g with
  | none=>none
  | some g=>kT v fr c g
def grow(v:View):Nat->Nat->Gr->List Nat->Option (Gr × List Nat)
 | 0,_,_,_=>none
 | f+1,i,g,first=>if g.pairs.length<=i then some (g,first) else
  if g.steps.length<=1000000000 then
   match kT v i 4 g with
   | none=>none
   | some g2=>grow v f (i+1) g2 (first++[g.steps.length])
  else none
structure GG where
 g:Gr
 st:Nat
 first:List Nat
 on:List Int
def graph(v:View):Option GG:=match kS v.k.ahead.length v.k.ahead.length 0 ⟨[],replicate ((v.k.ahead.length*4)*(v.k.ahead.length*4)) 0,[]⟩ with
 | none=>none
 | some g=>match grow v 10000 0 g []with
  | none=>none
  | some (g2,first)=>if g2.pairs.length<=100000∧g2.steps.length<=1000000000 then
    match jB g2.pairs.length g2.steps 10000 none g2.pairs.length (replicate g2.pairs.length 0)with
    | none=>none
    | some on=>some ⟨g2,g.pairs.length,first++[g2.steps.length],on⟩
   else none
def uZ(on:List Int)(found:List fH)(last:List Nat)(pair:Nat)(h0 h1:List UInt8)(fr:Int)(l:Nat):Option (List fH × List Nat):=match on[pair]?,last[pair]? with
 | some o,some la=>if o<0 then some (found,last) else
  if found.length<=2199023000000∧la<=100000000000000 then
   match M2.seen found h0 h1 10000000000000 ((la:Int)-1)with
   | none=>none
   | some true=>some (found,last)
   | some false=>some (found++[fH.mk pair h0 h1 fr l ((la:Int)-1)],last.set pair (found.length+1))
  else none
 | _,_=>none
def eF(found:List fH)(from':Int):Nat->Int->List UInt8->Option (List UInt8)
 | 0,_,_=>none
 | n+1,i,w=>if i<0∨i=from' then some w else
  match found[i.toNat]? with
  | none=>none
  | some f=>if f.l<4∧w.length<=100000 then eF found from' n f.fr (if 0<=f.fr then aT f.l++w else w) else none
def gJ(on:List Int):Nat->Nat->List fH->List Nat->Option (List fH × List Nat)
 | 0,_,found,last=>some (found,last)
 | n+1,i,found,last=>match uZ on found last i [] [] (-1) 0 with
  | none=>none
  | some (found,last)=>gJ on n (i+1) found last
def jr(on:List Int)(i:Nat)(h0 h1:List UInt8):List Stp->List fH->List Nat->Option (List fH × List Nat)
 | [],found,last=>some (found,last)
 | b::bs,found,last=>
  if (h0++b.s0).length<=100000∧(h1++b.s1).length<=100000 then
   match uZ on found last b.tt ((h0++b.s0).drop (aI.common (h0++b.s0) (h1++b.s1))) ((h1++b.s1).drop (aI.common (h0++b.s0) (h1++b.s1))) (i:Int) b.l with
   | none=>none
   | some (found,last)=>jr on i h0 h1 bs found last
  else none
def y8(R:GG)(i:Nat)(found:List fH)(last:List Nat):Option (List fH × List Nat):=match found[i]? with
 | none=>none
 | some f=>match R.first[f.pair]?,R.first[f.pair+1]? with
  | some a,some b=>if a<=b∧b<=R.g.steps.length∧b<=10000000000∧found.length<=2199023000000∧R.first.length<=200000 then jr R.on i f.h0 f.h1 ((R.g.steps.take b).drop a) found last else none
  | _,_=>none
def settle:Nat->pY->Option pY
 | 0,_=>none
 | n+1,w=>if 400<w.c then (if w.x.length<=1000000000000∧w.y.length<=1000000∧w.c<=1000000 then settle n { w with x:=w.x++w.y,c:=w.c-1 } else none) else some w
def xu(v:View)(x y:List UInt8)(k:Nat):Option M2.aA:=match v.k.words[k]? with
 | none=>none
 | some wd=>if x.length<=100000∧y.length<=100000∧wd.length<=100000∧k<v.k.ahead.length then
   match qU v x k 0 with
   | none=>none
   | some (tt,tc)=>if tc<=4 then
     match qU v y k tc,qU v wd 0 tc with
     | some ro,some re=>some ⟨tt,ro.1,re.1⟩
     | _,_=>none
    else none
  else none
def idx(fr:Nat):List Nat->Nat->Option Nat
 | [],_=>none
 | x::xs,i=>if x=fr then some i else idx fr xs (i+1)
def bY(on:List Int)(steps:List Stp):Nat->List Nat->List UInt8->Nat->Option (List UInt8 × List UInt8 × Nat)
 | 0,_,_,_=>none
 | n+1,met,w,fr=>match on[fr]? with
  | none=>none
  | some o=>if o<0 then some (w,[],fr) else
   match idx fr met 0 with
   | some i=>some (w.take i,w.drop i,fr)
   | none=>match steps[o.toNat]? with
    | none=>none
    | some s=>if s.l<4∧fr<=1000000 then bY on steps n (met++[fr]) (w++aT s.l) s.tt else none
def xK(w:M2.aA):Bool:=decide (w.tt.length<=10000000)&&(decide (w.ro.length<=10000000)&&decide (w.re.length<=10000000))
def weigh(v:View)(pairs:List Pair)(x y:List UInt8)(at':Nat):Option (Option pY):=match pairs[at']? with
 | none=>none
 | some p=>match xu v x y p.x,xu v x y p.y with
  | some one,some other=>if xK one&&xK other then
    match ahead' one other with
    | none=>none
    | some (_,false)=>some none
    | some (c,true)=>match v.k.words[p.x]?,v.k.words[p.y]? with
     | some z1,some z2=>match settle 1000000 ⟨x,y,z1,z2,c⟩ with
      | none=>none
      | some r=>some (some r)
     | _,_=>none
   else none
  | _,_=>none
def fV(v:View)(R:GG)(found:List fH)(i here:Nat):Nat->Int->Option (Option pY)
 | 0,_=>none
 | n+1,j=>if j<0 then
   match eF found (-1) 100000 (i:Int) [],bY R.on R.g.steps 100000 [] [] here with
   | some tt,some (on,round,en)=>if tt.length<=1000000∧on.length<=1000000 then weigh v R.g.pairs (tt++on) round en else none
   | _,_=>none
  else match found[j.toNat]? with
   | none=>none
   | some f=>if f.pair=here then
     match eF found (-1) 100000 j [],eF found j 100000 (i:Int) []with
     | some tt,some round=>weigh v R.g.pairs tt round here
     | _,_=>none
    else fV v R found i here n f.fr
def judge(v:View)(R:GG)(found:List fH)(i:Nat):Option (Option pY):=match found[i]? with
 | none=>none
 | some f=>fV v R found i f.pair 100000 f.fr
def iU(v:View)(R:GG):Nat->Nat->List fH->List Nat->Option (Option pY)
 | 0,_,_,_=>none
 | n+1,i,found,last=>if i<found.length then
   match judge v R found i with
   | none=>none
   | some (some x)=>some (some x)
   | some none=>match y8 R i found last with
    | none=>none
    | some (f2,l2)=>iU v R n (i+1) f2 l2
  else some none
def find(v:View):Option (Option pY):=match graph v with
 | none=>none
 | some R=>if R.g.pairs.length<=100000∧R.st<=100000 then
   match gJ R.on R.st 0 [] (replicate R.g.pairs.length 0)with
   | none=>none
   | some (found,last)=>iU v R 10000000000000 0 found last
  else none
def compile(limit:Nat)(l:List UInt8):Option (List iL × Nat × Nat):=match aI.cZ 1000 l 0 []with
 | none=>none
 | some (rs,line,er)=>if ¬er=0 then some ([],line,er) else
  if rs.length=0 then none else
  match view rs with
  | none=>none
  | some none=>some ([],0,3)
  | some (some v)=>match states v limit with
   | none=>none
   | some (some aC)=>if aC.length<=1000 then some (aC,0,0) else none
   | some none=>match find v with
    | none=>none
    | some (some _)=>some ([],0,4)
    | some none=>some ([],0,5)
end M3
namespace Th
open aI (R4 common)
open M2 (View aW lU set2 oQ DJ Dw lY bP)
variable {z:List Nat} {t k l x y n:Nat} {ap:Nat->Nat->Nat->Bool} {v:View} {s:bP}
abbrev By:=List UInt8
structure V where
 n:Nat
 A:Nat->Nat->Nat
 st:Nat->Nat->Nat->By × Nat
structure V.Ok(v:V):Prop where
 pos:0<v.n
 Jy:∀k l,k<v.n->l<4->v.A k l<v.n
 left:∀k t l,t<4->(v.st k t l).2<4
def Wd(z:List Nat):Prop:=∀l∈z,l<4
def kind(v:V):List Nat->Nat
 | []=>0
 | l::z=>v.A (kind v z) l
def out(v:V):Nat->List Nat->By
 | _,[]=>[]
 | t,l::z=>(v.st (kind v (l::z)) t l).1++out v (v.st (kind v (l::z)) t l).2 z
theorem wL{v:V}(h:v.Ok):∀z,Wd z->kind v z<v.n
 | [],_=>h.pos
 | l::z,hz=>h.Jy _ _ (wL h z fun x hx=>hz x (mem_cons_of_mem _ hx)) (hz l mem_cons_self)
theorem uf(a:By):a <+: a:=⟨[],append_nil a⟩
theorem y9{a b:By}(c:By)(h:a <+: b):c++a <+: c++b:=by
 obtain⟨t,rfl⟩:=h;exact⟨t,append_assoc _ _ _⟩
theorem jY{a b c:By}:c++a <+: c++b↔a <+: b:=prefix_append_right_inj c
theorem lZ{a b c:By}(h:a <+: c)(k:b <+: c):a <+: b∨b <+: a:=prefix_or_prefix_of_prefix h k
theorem yg{a b:By}(h:a <+: b):a++b.drop a.length=b:=by
 obtain⟨t,rfl⟩:=h;simp
theorem yh{a b:By}(h:a <+: b)(k:b <+: a):a=b:=by
 have h1:=h.length_le;have h2:=k.length_le;exact h.eq_of_length (by omega)
structure iM(v:V)(su:Nat->Nat->By):Prop where
 pre:∀z t,Wd z->t<4->su (kind v z) t <+: out v t z
 most:∀k t T,k<v.n->t<4->(∀z,Wd z->kind v z=k->T <+: out v t z)->T <+: su k t
theorem aBl{v:V}(h:v.Ok){su:Nat->Nat->By}(h0:∀t,t<4->su 0 t=[])(hcut:∀k l t,k<v.n->l<4->t<4->su (v.A k l) t <+: (v.st (v.A k l) t l).1++su k (v.st (v.A k l) t l).2)
  (Dx:∀k t T,k<v.n->t<4->(∀z,Wd z->kind v z=k->T <+: out v t z)->T <+: su k t):iM v su:=by
 refine⟨?_,Dx⟩;intro z
 induction z with
 | nil=>
  intro t _ ht;show su 0 t <+: [];rw[h0 t ht];exact uf _
 | cons l z ih=>
  intro t hz ht;have hl:=hz l mem_cons_self;have hz':Wd z:=fun x hx=>hz x (mem_cons_of_mem _ hx)
  have hk:=wL h z hz';refine(hcut (kind v z) l t hk hl ht).trans ?_;exact y9 _ (ih _ hz' (h.left _ _ _ ht))
def tail(v:V)(su:Nat->Nat->By)(t:Nat)(z:List Nat):By:=(out v t z).drop (su (kind v z) t).length
theorem Dy{v:V}{su:Nat->Nat->By}(hs:iM v su)(hz:Wd z)(ht:t<4):su (kind v z) t++tail v su t z=out v t z:=yg (hs.pre z t hz ht)
def mv(v:V)(su:Nat->Nat->By)(k t l:Nat):By:=((v.st (v.A k l) t l).1++su k (v.st (v.A k l) t l).2).drop (su (v.A k l) t).length
theorem Ul{v:V}(h:v.Ok){su:Nat->Nat->By}(hs:iM v su)(hk:k<v.n)(hl:l<4)(ht:t<4)(hw:∃z,Wd z∧kind v z=k):su (v.A k l) t <+: (v.st (v.A k l) t l).1++su k (v.st (v.A k l) t l).2:=by
 obtain⟨z0,hz0,hk0⟩:=hw;have p0:su (v.A k l) t <+: out v t (l::z0):=by
  have:=hs.pre (l::z0) t (by intro x hx;rcases mem_cons.1 hx with rfl | hx;exact hl;exact hz0 x hx) ht
  rwa [kind,hk0]at this
 rw[out,kind,hk0]at p0;rcases lZ p0 (prefix_append _ _)with hc | ⟨r,hr⟩
 ·exact hc.trans (prefix_append _ _)
 ·rw[<-hr];refine y9 _ (hs.most k _ r hk (h.left _ _ _ ht) fun z hz hkz=>?_);have:=hs.pre (l::z) t (by intro x hx;rcases mem_cons.1 hx with rfl | hx;exact hl;exact hz x hx) ht;rw[kind,hkz,<-hr,out,kind,hkz]at this;exact jY.1 this
theorem aCH{v:V}(h:v.Ok){su:Nat->Nat->By}(hs:iM v su)(hk:k<v.n)(hl:l<4)(ht:t<4)(hw:∃z,Wd z∧kind v z=k):su (v.A k l) t++mv v su k t l=(v.st (v.A k l) t l).1++su k (v.st (v.A k l) t l).2:=yg (Ul h hs hk hl ht hw)
theorem tail_cons{v:V}(h:v.Ok){su:Nat->Nat->By}(hs:iM v su)(hz:Wd z)(hl:l<4)(ht:t<4):tail v su t (l::z)=mv v su (kind v z) t l++tail v su (v.st (v.A (kind v z) l) t l).2 z:=by
 have e1:=aCH h hs (wL h z hz) hl ht ⟨z,hz,rfl⟩;have e2:=Dy hs hz (h.left (v.A (kind v z) l) t l ht);have e3:out v t (l::z)=su (v.A (kind v z) l) t++(mv v su (kind v z) t l++tail v su (v.st (v.A (kind v z) l) t l).2 z):=by
  rw[<-append_assoc,e1,append_assoc,e2];rfl
 unfold tail;rw[e3,show kind v (l::z)=v.A (kind v z) l from rfl,drop_left];rfl
theorem Ag{v:V}{su:Nat->Nat->By}(hs:iM v su)(hk:k<v.n)(ht:t<4){T:By}(hT:∀z,Wd z->kind v z=k->T <+: tail v su t z):T=[]:=by
 have:su k t++T <+: su k t:=hs.most k t _ hk ht fun z hz hkz=>by
  have e:=Dy hs hz ht;rw[hkz]at e;rw[<-e];exact y9 _ (hT z hz hkz)
 have hl:=this.length_le;rw[length_append]at hl;exact eq_nil_of_length_eq_zero (by omega)
structure NS(v:V)(su:Nat->Nat->By)(ap:Nat->Nat->Nat->Bool):Prop where
 no:∀k x y,k<v.n->x<4->y<4->ap k x y=false->∀z,Wd z->kind v z=k->tail v su x z=tail v su y z
 yes:∀k x y,k<v.n->x<4->y<4->ap k x y=true->∃z,Wd z∧kind v z=k∧tail v su x z≠tail v su y z
theorem aCI{v:V}(h:v.Ok){su:Nat->Nat->By}(hs:iM v su){ap:Nat->Nat->Nat->Bool}(hfix:∀k l x y,k<v.n->l<4->x<4->y<4->ap (v.A k l) x y=false->mv v su k x l=mv v su k y l∧ap k (v.st (v.A k l) x l).2 (v.st (v.A k l) y l).2=false):∀z k x y,k<v.n->x<4->y<4->ap k x y=false->Wd z->kind v z=k->tail v su x z=tail v su y z
 | [],k,x,y,_,_,_,_,_,_=>by unfold tail;simp[out]
 | l::z,k,x,y,hk,hx,hy,ha,hz,hkz=>by
  have hl:=hz l mem_cons_self;have hz':Wd z:=fun x hx=>hz x (mem_cons_of_mem _ hx)
  have aF2:v.A (kind v z) l=k:=hkz;have hk':=wL h z hz';rw[<-aF2]at ha;obtain⟨e1,e2⟩:=hfix _ l x y hk' hl hx hy ha;rw[tail_cons h hs hz' hl hx,tail_cons h hs hz' hl hy,e1,aCI h hs hfix z _ _ _ hk' (h.left _ _ _ hx) (h.left _ _ _ hy) e2 hz' rfl]
theorem Bc{v:V}(h:v.Ok){su:Nat->Nat->By}(hs:iM v su)(hk:k<v.n)(hl:l<4)(hx:x<4)(hy:y<4)(hw:∃z,Wd z∧kind v z=k)
  (hd:mv v su k x l≠mv v su k y l∨∃z,Wd z∧kind v z=k∧tail v su (v.st (v.A k l) x l).2 z≠tail v su (v.st (v.A k l) y l).2 z):∃z,Wd z∧kind v z=v.A k l∧tail v su x z≠tail v su y z:=by
 have cw:∀z,Wd z->Wd (l::z):=fun z hz a ha=>by rcases mem_cons.1 ha with rfl | ha;exact hl;exact hz a ha
 by_cases hm:mv v su k x l=mv v su k y l
 ·rcases hd with hd | ⟨z,hz,hkz,hne⟩
  ·exact absurd hm hd
  ·refine⟨l::z,cw z hz,by rw[kind,hkz],?_⟩;rw[tail_cons h hs hz hl hx,tail_cons h hs hz hl hy,hkz,hm];exact fun e=>hne (append_cancel_left e)
 ·apply Classical.byContradiction;intro hno;have hall:∀z,Wd z->kind v z=k->tail v su x (l::z)=tail v su y (l::z):=fun z hz hkz=>by
   apply Classical.byContradiction;intro hne;exact hno ⟨l::z,cw z hz,by rw[kind,hkz],hne⟩
  have key:∀(x y:Nat),x<4->y<4->(∀z,Wd z->kind v z=k->tail v su x (l::z)=tail v su y (l::z))->mv v su k x l <+: mv v su k y l:=fun x y hx hy hall=>by
   obtain⟨z0,hz0,hk0⟩:=hw;have e:=hall z0 hz0 hk0;rw[tail_cons h hs hz0 hl hx,tail_cons h hs hz0 hl hy,hk0]at e;have p1:mv v su k x l <+: mv v su k y l++tail v su (v.st (v.A k l) y l).2 z0:=by rw[<-e];exact prefix_append _ _
   rcases lZ p1 (prefix_append _ _)with hc | ⟨r,hr⟩
   ·exact hc
   ·have:r=[]:=Ag hs hk (h.left (v.A k l) y l hy) fun z hz hkz=>by
     have e2:=hall z hz hkz;rw[tail_cons h hs hz hl hx,tail_cons h hs hz hl hy,hkz,<-hr,append_assoc]at e2;rw[<-append_cancel_left e2];exact prefix_append _ _
    rw[<-hr,this,append_nil];exact uf _
  exact hm (yh (key x y hx hy hall) (key y x hy hx fun z hz hkz=>(hall z hz hkz).symm))
def rn(v:V):List Nat->Nat->By × Nat
 | [],_=>([],0)
 | l::r,k=>((rn v r (v.A k l)).1++(v.st (v.A k l) (rn v r (v.A k l)).2 l).1,(v.st (v.A k l) (rn v r (v.A k l)).2 l).2)
theorem NT{v:V}(h:v.Ok):∀r k,(rn v r k).2<4
 | [],_=>by show (0:Nat)<4;omega
 | l::r,k=>h.left _ _ _ (NT h r _)
def R(v:V)(w:List Nat):By:=out v 0 w
theorem Um(v:V):∀(r z:List Nat),R v (r.reverse++z)=(rn v r (kind v z)).1++out v (rn v r (kind v z)).2 z
 | [],z=>rfl
 | l::r,z=>by
  rw[reverse_cons,append_assoc,Um v r ([l]++z)];show (rn v r (kind v (l::z))).1++out v (rn v r (kind v (l::z))).2 (l::z)=_;rw[out];show (rn v r (v.A (kind v z) l)).1++((v.st (v.A (kind v z) l) (rn v r (v.A (kind v z) l)).2 l).1++out v (v.st (v.A (kind v z) l) (rn v r (v.A (kind v z) l)).2 l).2 z)=_;rw[<-append_assoc];rfl
def Alike(v:V)(su:Nat->Nat->By)(k x y:Nat):Prop:=∀z,Wd z->kind v z=k->tail v su x z=tail v su y z
theorem Yi(hl:l<4)(hz:Wd z):Wd (l::z):=fun a ha=>by rcases mem_cons.1 ha with rfl | ha;exact hl;exact hz a ha
theorem Yj{v:V}(h:v.Ok){su:Nat->Nat->By}(hs:iM v su)(hw:∀k,k<v.n->∃z,Wd z∧kind v z=k)(hk:k<v.n)(hl:l<4)(hx:x<4)(hy:y<4)(ha:Alike v su (v.A k l) x y):mv v su k x l=mv v su k y l∧Alike v su k (v.st (v.A k l) x l).2 (v.st (v.A k l) y l).2:=by
 have hno:∀hd:mv v su k x l≠mv v su k y l∨∃z,Wd z∧kind v z=k∧tail v su (v.st (v.A k l) x l).2 z≠tail v su (v.st (v.A k l) y l).2 z,False:=fun hd=>by
  obtain⟨z,hz,hkz,hne⟩:=Bc h hs hk hl hx hy (hw k hk) hd;exact hne (ha z hz hkz)
 refine⟨Classical.byContradiction fun hne=>hno (Or.inl hne),fun z hz hkz=>Classical.byContradiction fun hne=>hno (Or.inr ⟨z,hz,hkz,hne⟩)⟩
def lI(ap:Nat->Nat->Nat->Bool)(k t:Nat):Nat->Nat->Nat
 | 0,x=>x
 | f+1,x=>if x<t∧ap k x t=true then lI ap k t f (x+1) else x
theorem qB{ap:Nat->Nat->Nat->Bool}{k t:Nat}:∀f x,x<=t->t<=x+f->x<=lI ap k t f x∧lI ap k t f x<=t∧(∀y,x<=y->y<lI ap k t f x->ap k y t=true)∧(lI ap k t f x=t∨ap k (lI ap k t f x) t=false)
 | 0,x,h1,h2=>by
  have:x=t:=by omega
  subst this;exact⟨dH _,dH _,fun y hy1 hy2=>absurd hy2 (Nat.not_lt.2 hy1),Or.inl rfl⟩
 | f+1,x,h1,h2=>by
  rw[lI];split
  ·rename_i hc;obtain⟨a,b,c,d⟩:=qB (ap:=ap) (k:=k) (t:=t) f (x+1) (by omega) (by omega);refine⟨by omega,b,fun y hy1 hy2=>?_,d⟩;rcases iK x y with h | h
   ·exact c y h hy2
   ·have:y=x:=by omega
    rw[this];exact hc.2
  ·rename_i hc;refine⟨dH _,h1,fun y hy1 hy2=>absurd hy2 (Nat.not_lt.2 hy1),?_⟩;by_cases hx:x=t
   ·exact Or.inl hx
   ·right
    cases hb:ap k x t with
    | false=>rfl
    | true=>exact absurd ⟨by omega,hb⟩ hc
def lst(ap:Nat->Nat->Nat->Bool)(k t:Nat):Nat:=lI ap k t 10 0
theorem qw{v:V}{su:Nat->Nat->By}(ha:NS v su ap)(hk:k<v.n)(ht:t<4):lst ap k t<4∧Alike v su k (lst ap k t) t:=by
 obtain⟨-,b,-,d⟩:=qB (ap:=ap) (k:=k) (t:=t) 10 0 (by omega) (by omega);refine⟨Nat.lt_of_le_of_lt b ht,?_⟩;rcases d with d | d
 ·unfold lst;rw[d];exact fun _ _ _=>rfl
 ·exact ha.no k _ _ hk (Nat.lt_of_le_of_lt b ht) ht d
theorem aJI{v:V}{su:Nat->Nat->By}(ha:NS v su ap){u:Nat}(hk:k<v.n)(ht:t<4)(hu:u<4)(hal:Alike v su k t u):lst ap k t=lst ap k u:=by
 have key:∀t u,t<4->u<4->Alike v su k t u->lst ap k t<=lst ap k u:=fun t u ht hu hal=>by
  obtain⟨-,b,c,d⟩:=qB (ap:=ap) (k:=k) (t:=t) 10 0 (by omega) (by omega);obtain⟨-,b',-,-⟩:=qB (ap:=ap) (k:=k) (t:=u) 10 0 (by omega) (by omega);apply Classical.byContradiction;intro hlt;unfold lst at hlt;have h1:=c (lI ap k u 10 0) (Nat.zero_le _) (by omega);obtain⟨z,hz,hkz,hne⟩:=ha.yes k _ t hk (Nat.lt_of_le_of_lt b' hu) ht h1;have h2:=(qw ha hk hu).2 z hz hkz;exact hne (h2.trans (hal z hz hkz).symm)
 exact Nat.le_antisymm (key t u ht hu hal) (key u t hu ht fun z hz hkz=>(hal z hz hkz).symm)
structure qW(v:V)(su:Nat->Nat->By)(ap:Nat->Nat->Nat->Bool)(r:List Nat)(E:By)(held:Nat->By)(tc:Nat->Nat):Prop where
 sum:∀k,k<v.n->E++held k=(rn v r k).1++su k (rn v r k).2
 tc4:∀k,k<v.n->tc k<4
 alike:∀k,k<v.n->Alike v su k (tc k) (rn v r k).2
 least:∀k,k<v.n->lst ap k (tc k)=tc k
 bare:∀T:By,(∀k,k<v.n->T <+: held k)->T=[]
section
variable {v:V} {su:Nat->Nat->By} {ap:Nat->Nat->Nat->Bool} {r:List Nat} {E:By} {held:Nat->By} {tc:Nat->Nat}
theorem qW.says(hv:v.Ok)(hs:iM v su)(h:qW v su ap r E held tc)(hz:Wd z):R v (r.reverse++z)=E++(held (kind v z)++tail v su (tc (kind v z)) z):=by
 have hk:=wL hv z hz;rw[Um,<-append_assoc,h.sum _ hk,append_assoc,h.alike _ hk z hz rfl,Dy hs hz (NT hv _ _)]
theorem aBm(ha:NS v su ap)(hk:k<v.n)(ht:t<4):lst ap k (lst ap k t)=lst ap k t:=aJI ha hk (qw ha hk ht).1 ht (qw ha hk ht).2
theorem qW.start(_hv:v.Ok)(hs:iM v su)(h0:∀k,k<v.n->lst ap k 0=0):qW v su ap [] [] (fun k=>su k 0) (fun _=>0):=by
 refine⟨fun k _=>rfl,fun _ _=>by omega,fun k _ z _ _=>rfl,h0,fun T hT=>?_⟩;have:=(hT 0 _hv.pos).trans (hs.pre [] 0 (fun x hx=>by cases hx) (by omega));exact prefix_nil.1 this
theorem qW.next(hv:v.Ok)(hs:iM v su)(ha:NS v su ap)(hw:∀k,k<v.n->∃z,Wd z∧kind v z=k)(h:qW v su ap r E held tc)(hl:l<4){said:By}(h1:∀k,k<v.n->said <+: held (v.A k l)++mv v su k (tc (v.A k l)) l)(h2:∀T:By,(∀k,k<v.n->T <+: held (v.A k l)++mv v su k (tc (v.A k l)) l)->T <+: said):qW v su ap (l::r) (E++said) (fun k=>(held (v.A k l)++mv v su k (tc (v.A k l)) l).drop said.length) (fun k=>lst ap k (v.st (v.A k l) (tc (v.A k l)) l).2):=by
 have hA:=fun k (hk:k<v.n)=>hv.Jy k l hk hl
 have hm:∀k,k<v.n->_:=fun k hk=>Yj hv hs hw hk hl (h.tc4 _ (hA k hk)) (NT hv r (v.A k l)) (h.alike _ (hA k hk))
 have hleft:∀k,k<v.n->(v.st (v.A k l) (tc (v.A k l)) l).2<4:=fun k hk=>hv.left _ _ _ (h.tc4 _ (hA k hk))
 refine⟨fun k hk=>?_,fun k hk=>(qw ha hk (hleft k hk)).1,fun k hk z hz hkz=>?_,fun k hk=>aBm ha hk (hleft k hk),fun T hT=>?_⟩
 ·have e1:=yg (h1 k hk);have e2:=aCH hv hs hk hl (NT hv r (v.A k l)) (hw k hk);rw[append_assoc,e1,<-append_assoc,h.sum _ (hA k hk),(hm k hk).1,append_assoc,e2,<-append_assoc];rfl
 ·exact((qw ha hk (hleft k hk)).2 z hz hkz).trans ((hm k hk).2 z hz hkz)
 ·have:said++T <+: said:=h2 _ fun k hk=>by
   rw[<-yg (h1 k hk)];exact y9 _ (hT k hk)
  have hlen:=this.length_le;rw[length_append]at hlen;exact eq_nil_of_length_eq_zero (by omega)
theorem qW.one(_hv:v.Ok)(hs:iM v su)(ha:NS v su ap){held':Nat->By}{tc':Nat->Nat}{r':List Nat}{E':By}(h:qW v su ap r E held tc)(h':qW v su ap r' E' held' tc')(hw:∀k,k<v.n->∃z,Wd z∧kind v z=k)
  (hsame:∀z,Wd z->held (kind v z)++tail v su (tc (kind v z)) z=held' (kind v z)++tail v su (tc' (kind v z)) z)  (hk:k<v.n):held k=held' k∧tc k=tc' k:=by
 have hs2:∀z,Wd z->kind v z=k->held k++tail v su (tc k) z=held' k++tail v su (tc' k) z:=fun z hz hkz=>by
  have:=hsame z hz
  rwa [hkz]at this
 have key:∀(x y:By) (t u:Nat),u<4->(∀z,Wd z->kind v z=k->x++tail v su t z=y++tail v su u z)->x <+: y:=fun x y t u hu hall=>by
  obtain⟨z0,hz0,hk0⟩:=hw k hk;have e:=hall z0 hz0 hk0;have p1:x <+: y++tail v su u z0:=by rw[<-e];exact prefix_append _ _
  rcases lZ p1 (prefix_append _ _)with hc | ⟨q,hq⟩
  ·exact hc
  ·have:q=[]:=Ag hs hk hu fun z hz hkz=>by
    have e2:=hall z hz hkz;rw[<-hq,append_assoc]at e2;rw[<-append_cancel_left e2];exact prefix_append _ _
   rw[<-hq,this,append_nil];exact uf _
 have he:=yh (key _ _ _ _ (h'.tc4 k hk) hs2) (key _ _ _ _ (h.tc4 k hk) fun z hz hkz=>(hs2 z hz hkz).symm);refine⟨he,?_⟩;rw[<-h.least k hk,<-h'.least k hk];refine aJI ha hk (h.tc4 k hk) (h'.tc4 k hk) fun z hz hkz=>?_
 have e:=hs2 z hz hkz;rw[he]at e;exact append_cancel_left e
end
theorem xw:∀a b:By,a.take (common a b) <+: b
 | [],b=>by simp[common]
 | _::_,[]=>by simp[common]
 | x::a,y::b=>by
  rw[common];split
  ·rename_i h;subst h;rw[take_succ_cons];exact(prefix_cons_inj x).2 (xw a b)
  ·simp
theorem ug:∀(T a b:By),T <+: a->T <+: b->T <+: a.take (common a b)
 | [],_,_,_,_=>nil_prefix
 | t::T,[],_,h,_=>by simp at h
 | t::T,_::_,[],_,h=>by simp at h
 | t::T,x::a,y::b,h,k=>by
  obtain⟨rfl,h'⟩:=cons_prefix_cons.1 h;obtain⟨rfl,k'⟩:=cons_prefix_cons.1 k;rw[common,aP rfl,take_succ_cons];exact(prefix_cons_inj _).2 (ug T a b h' k')
theorem IY{a b:By}(h:¬common a b<a.length):a <+: b:=by
 have h1:=xw a b
 rwa [take_of_length_le (by omega)]at h1
def kz(r:R4)(l:Nat):Nat:=(r.get l).getD 0
def aF(v:View):V:=⟨v.k.ahead.length,fun k l=>kz (v.k.ahead.getD k ⟨0,0,0,0⟩) l,fun k t l=>aW v k t l⟩
structure VF(v:View):Prop where
 pos:0<v.k.ahead.length
 le:v.k.ahead.length<=24
 len:v.jX.length=v.k.ahead.length
 ent:∀row∈v.k.ahead,∀l k,row.get l=some k->k<v.k.ahead.length
 tak:∀d∈v.jX,d.1<=4∧d.2.length<=4
theorem uj{r:R4}(hl:l<4):r.get l=some (kz r l):=by
 match l,hl with
 | 0,_=>rfl
 | 1,_=>rfl
 | 2,_=>rfl
 | 3,_=>rfl
theorem Yk(hk:k<v.k.ahead.length):v.k.ahead[k]?=some (v.k.ahead.getD k ⟨0,0,0,0⟩):=by
 rw[fM,bG hk];rfl
theorem gX(h:VF v)(k t l:Nat)(ht:t<4):(aW v k t l).2<4:=by
 unfold aW;split
 ·show (0:Nat)<4;omega
 ·rename_i d hd;have:=(h.tak d (iI hd)).1;split
  ·show (0:Nat)<4;omega
  ·split
   ·show t-1<4;omega
   ·split
    ·show d.1-1<4;omega
    ·show (0:Nat)<4;omega
theorem l7(h:VF v)(k t l:Nat):(aW v k t l).1.length<=4:=by
 unfold aW;split
 ·simp
 ·rename_i d hd;have:=(h.tak d (iI hd)).2;split
  ·simp
  ·split
   ·simp
   ·split
    ·exact this
    ·simp[M2.aT]
theorem gK(h:VF v):(aF v).Ok:=⟨h.pos,fun _ l hk hl=>h.ent _ (iI (Yk hk)) l _ (uj hl),fun k t l ht=>gX h k t l ht⟩
def jT(s:bP)(k t:Nat):By:=(s.getD k []).getD t []
def Sh(n:Nat)(s:bP):Prop:=s.length=n∧∀row∈s,row.length=4
theorem RD(hk:k<s.length)(ht:t<(s[k]).length):jT s k t=(s[k])[t]:=by
 unfold jT;simp[getD_eq_getElem?_getD,getElem?_eq_getElem hk,getElem?_eq_getElem ht]
theorem D8(h:Sh n s)(hk:k<n)(ht:t<4):lU s k t=some (jT s k t):=by
 have hk':k<s.length:=by rw[h.1];exact hk
 have ht':t<(s[k]).length:=by rw[h.2 _ (getElem_mem hk')];exact ht
 rw[RD hk' ht'];unfold lU;rw[bG hk'];exact bG ht'
theorem aBn(h:Sh n s)(k t:Nat)(x:By):Sh n (set2 s k t x):=by
 refine⟨by unfold set2;rw[length_modify];exact h.1,fun row hrow=>?_⟩;unfold set2 at hrow;obtain⟨i,hi,he⟩:=mem_iff_getElem.1 hrow;rw[getElem_modify]at he;rw[length_modify]at hi;split at he
 ·rw[<-he,length_set];exact h.2 _ (getElem_mem hi)
 ·rw[<-he];exact h.2 _ (getElem_mem hi)
theorem NV(h:Sh n s)(hk:k<n)(ht:t<4)(x:By)(i j:Nat):jT (set2 s k t x) i j=if i=k∧j=t then x else jT s i j:=by
 have hk':k<s.length:=by rw[h.1];exact hk
 have hl:t<(s[k]).length:=by rw[h.2 _ (getElem_mem hk')];exact ht
 unfold jT set2;simp only[getD_eq_getElem?_getD,getElem?_modify];by_cases hi:k=i
 ·subst hi;rw[bG hk'];simp only[if_true,Option.map_eq_map,Option.map_some,Option.getD_some,getElem?_set,true_and];by_cases hj:t=j
  ·subst hj;rw[aP rfl,aP rfl,aP hl];rfl
  ·rw[aU hj,aU (fun e=>hj e.symm)]
 ·rw[aU (fun e:i=k∧j=t=>hi e.1.symm)];simp only[hi,if_false];cases s[i]? <;> rfl
def tot(s:bP):Nat:=(s.map fun r=>(r.map length).sum).sum
theorem yj:∀(r:List Nat) (i x:Nat) (h:i<r.length),(r.set i x).sum+r[i]=r.sum+x
 | a::r,0,x,_=>by simp;omega
 | a::r,i+1,x,h=>by
  have:=yj r i x (by simpa using h);simp only[set_cons_succ,sum_cons,getElem_cons_succ];omega
theorem NY(h:Sh n s)(hk:k<n)(ht:t<4)(x:By):tot (set2 s k t x)+(jT s k t).length=tot s+x.length:=by
 have hk':k<s.length:=by rw[h.1];exact hk
 have hl:t<(s[k]).length:=by rw[h.2 _ (getElem_mem hk')];exact ht
 have e1:(set2 s k t x).map (fun r=>(r.map length).sum)=(s.map fun r=>(r.map length).sum).set k (((s[k]).set t x).map length).sum:=by
  unfold set2;apply ext_getElem
  ·simp
  ·intro i h1 h2;rw[getElem_map,getElem_modify,getElem_set];by_cases hi:k=i
   ·subst hi;rw[aP rfl,aP rfl]
   ·rw[aU hi,aU hi,getElem_map]
 have e2:=yj (s.map fun r=>(r.map length).sum) k (((s[k]).set t x).map length).sum (by rw[length_map];exact hk');rw[getElem_map]at e2;have e3:=yj ((s[k]).map length) t x.length (by rw[length_map];exact hl);rw[getElem_map,<-map_set]at e3;have e4:=RD hk' hl;unfold tot;rw[e1,e4];omega
def Has(v:View):Prop:=∀k,k<v.k.ahead.length->∃z,Wd z∧kind (aF v) z=k
structure Ah(v:View)(s:bP):Prop where
 sh:Sh v.k.ahead.length s
 z:∀t,t<4->jT s 0 t=[]
 most:∀k t T,k<v.k.ahead.length->t<4->(∀z,Wd z->kind (aF v) z=k->T <+: out (aF v) t z)->T <+: jT s k t
def Fit(v:View)(s:bP)(k l t:Nat):Prop:=jT s ((aF v).A k l) t <+: (aW v ((aF v).A k l) t l).1++jT s k (aW v ((aF v).A k l) t l).2
theorem Ah.cut(hv:VF v)(h:Ah v s)(hk:k<v.k.ahead.length)(hl:l<4)(ht:t<4):Ah v (set2 s ((aF v).A k l) t ((jT s ((aF v).A k l) t).take (common (jT s ((aF v).A k l) t) ((aW v ((aF v).A k l) t l).1++jT s k (aW v ((aF v).A k l) t l).2)))):=by
 have hA:(aF v).A k l<v.k.ahead.length:=(gK hv).Jy k l hk hl;have hleft:=gX hv ((aF v).A k l) t l ht;refine⟨aBn h.sh _ _ _,fun t' ht'=>?_,fun k' t' T hk' ht' hT=>?_⟩
 ·rw[NV h.sh hA ht];split
  ·rename_i hc;rw[<-hc.1,h.z t ht];rfl
  ·exact h.z t' ht'
 ·rw[NV h.sh hA ht];have hm:=h.most k' t' T hk' ht' hT;split
  ·rename_i hc;obtain⟨rfl,rfl⟩:=hc;refine ug T _ _ hm ?_;have hT2:∀z,Wd z->kind (aF v) z=k->T <+: (aW v ((aF v).A k l) t' l).1++out (aF v) (aW v ((aF v).A k l) t' l).2 z:=fun z hz hkz=>by
    have:=hT (l::z) (Yi hl hz) (by rw[kind,hkz]);rw[out,kind,hkz]at this;exact this
   by_cases hp:T <+: (aW v ((aF v).A k l) t' l).1
   ·exact hp.trans (prefix_append _ _)
   ·by_cases hw:∃z,Wd z∧kind (aF v) z=k
    ·obtain⟨z0,hz0,hk0⟩:=hw;rcases lZ (hT2 z0 hz0 hk0) (prefix_append _ _)with hc | ⟨r,hr⟩
     ·exact absurd hc hp
     ·rw[<-hr];refine y9 _ (h.most k _ r hk hleft fun z hz hkz=>?_);have:=hT2 z hz hkz;rw[<-hr]at this;exact jY.1 this
    ·have h2:=h.most k (aW v ((aF v).A k l) t' l).2 (jT s k (aW v ((aF v).A k l) t' l).2++[0]) hk hleft (fun z hz hkz=>absurd ⟨z,hz,hkz⟩ hw);have h3:=h2.length_le;have h4:([0]:By).length=1:=rfl;rw[length_append]at h3;omega
  ·exact hm
theorem yA{v:View}(hv:VF v){k l:Nat}(hk:k<v.k.ahead.length)(hl:l<4):∀(m tc:Nat) (s:bP) (b:Bool),tc+m=4->Ah v s ->∃b' s',oQ v ((aF v).A k l) l k m tc s b=some (b',s')∧Ah v s'∧tot s'<=tot s∧(b'=false->b=false∧s'=s∧∀t,tc<=t->t<4->Fit v s k l t)∧(b'=true->b=true∨tot s'<tot s)
 | 0,tc,s,b,_,h=>⟨b,s,rfl,h,dH _,fun e=>⟨e,rfl,fun t h1 h2=>by omega⟩,fun e=>Or.inl e⟩
 | m+1,tc,s,b,hm,h=>by
  have ht:tc<4:=by omega
  have hA:(aF v).A k l<v.k.ahead.length:=(gK hv).Jy k l hk hl;rw[oQ,D8 h.sh hA ht];simp only[];rw[D8 h.sh hk (gX hv ((aF v).A k l) tc l ht)];simp only[];split
  ·rename_i hc;obtain⟨b',s',e,h1,h2,h3,h4⟩:=yA hv hk hl m (tc+1) _ true (by omega) (h.cut hv hk hl ht);have ht2:=NY h.sh hA ht ((jT s ((aF v).A k l) tc).take (common (jT s ((aF v).A k l) tc) ((aW v ((aF v).A k l) tc l).1++jT s k (aW v ((aF v).A k l) tc l).2)));rw[length_take]at ht2;refine⟨b',s',e,h1,by omega,fun e2=>absurd (h3 e2).1 (by simp),fun e2=>Or.inr ?_⟩;omega
  ·rename_i hc;obtain⟨b',s',e,h1,h2,h3,h4⟩:=yA hv hk hl m (tc+1) s b (by omega) h;refine⟨b',s',e,h1,h2,fun e2=>?_,h4⟩;obtain⟨a1,a2,a3⟩:=h3 e2;refine⟨a1,a2,fun t t1 t2=>?_⟩;rcases iK tc t with hlt | hge
   ·exact a3 t hlt t2
   ·obtain rfl:t=tc:=by omega
    exact IY hc
theorem Ii{v:View}(hv:VF v){k:Nat}(hk:k<v.k.ahead.length):∀(m:Nat) (s:bP) (b:Bool),m<=4->Ah v s ->∃b' s',DJ v k (v.k.ahead.getD k ⟨0,0,0,0⟩) m s b=some (b',s')∧Ah v s'∧tot s'<=tot s∧(b'=false->b=false∧s'=s∧∀l,4-m<=l->l<4->∀t,t<4->Fit v s k l t)∧(b'=true->b=true∨tot s'<tot s)
 | 0,s,b,_,h=>⟨b,s,rfl,h,dH _,fun e=>⟨e,rfl,fun l h1 h2=>by omega⟩,fun e=>Or.inl e⟩
 | m+1,s,b,hm,h=>by
  rw[DJ,uj (by omega:3-m<4)];simp only[];obtain⟨b1,s1,e1,h1,h2,h3,h4⟩:=yA hv (l:=3-m) hk (by omega) 4 0 s false (by omega) h;have e1':oQ v (kz (v.k.ahead.getD k ⟨0,0,0,0⟩) (3-m)) (3-m) k 4 0 s false=some (b1,s1):=e1;rw[e1'];simp only[];obtain⟨b2,s2,e2,k1,k2,k3,k4⟩:=Ii hv hk m s1 (b||b1) (by omega) h1;refine⟨b2,s2,e2,k1,Nat.le_trans k2 h2,fun e=>?_,fun e=>?_⟩
  ·obtain⟨a1,a2,a3⟩:=k3 e;rw[Bool.or_eq_false_iff]at a1;obtain⟨-,c2,c3⟩:=h3 a1.2;subst c2;refine⟨a1.1,a2,fun l l1 l2 t ht=>?_⟩;rcases iK (3-m) l with hlt | hge
   ·exact a3 l (by omega) l2 t ht
   ·obtain rfl:l=3-m:=by omega
    exact c3 t (Nat.zero_le _) ht
  ·rcases k4 e with h | h
   ·rw[Bool.or_eq_true]at h;rcases h with h | h
    ·exact Or.inl h
    ·rcases h4 h with h | h
     ·cases h
     ·exact Or.inr (by omega)
   ·exact Or.inr (by omega)
theorem Ij{v:View}(hv:VF v):∀(rs:List R4) (k:Nat) (s:bP) (b:Bool),rs=v.k.ahead.drop k->Ah v s ->∃b' s',Dw v rs k s b=some (b',s')∧Ah v s'∧tot s'<=tot s∧(b'=false->b=false∧s'=s∧∀k',k<=k'->k'<v.k.ahead.length->∀l,l<4->∀t,t<4->Fit v s k' l t)∧(b'=true->b=true∨tot s'<tot s)
 | [],k,s,b,hr,h=>⟨b,s,rfl,h,dH _,fun e=>⟨e,rfl,fun k' h1 h2=>by
   have:=congrArg length hr
   simp at this
   omega⟩,fun e=>Or.inl e⟩
 | r::rs,k,s,b,hr,h=>by
  have hk:k<v.k.ahead.length:=by
   have:=congrArg length hr;simp at this;omega
  rw[kJ hk]at hr;injection hr with hr1 hr2;have er:r=v.k.ahead.getD k ⟨0,0,0,0⟩:=by rw[hr1,fM,bG hk];rfl
  rw[Dw,er];obtain⟨b1,s1,e1,h1,h2,h3,h4⟩:=Ii hv hk 4 s b (dH _) h;rw[e1];simp only[];obtain⟨b2,s2,e2,k1,k2,k3,k4⟩:=Ij hv rs (k+1) s1 b1 hr2 h1;refine⟨b2,s2,e2,k1,Nat.le_trans k2 h2,fun e=>?_,fun e=>?_⟩
  ·obtain⟨a1,a2,a3⟩:=k3 e;obtain⟨c1,c2,c3⟩:=h3 a1;subst c2;refine⟨c1,a2,fun k' g1 g2 l hl t ht=>?_⟩;rcases iK k k' with hlt | hge
   ·exact a3 k' hlt g2 l hl t ht
   ·obtain rfl:k'=k:=by omega
    exact c3 l (by omega) hl t ht
  ·rcases k4 e with h | h
   ·rcases h4 h with h | h
    ·exact Or.inl h
    ·exact Or.inr (by omega)
   ·exact Or.inr (by omega)
theorem Bd{v:View}(hv:VF v):∀(f:Nat) (s:bP),tot s<f->Ah v s->∃s',lY v f s=some s'∧Ah v s'∧tot s'<=tot s∧∀k l t,k<v.k.ahead.length->l<4->t<4->Fit v s' k l t
 | 0,s,h,_=>by omega
 | f+1,s,hf,h=>by
  rw[lY];obtain⟨b1,s1,e1,h1,h2,h3,h4⟩:=Ij hv v.k.ahead 0 s false rfl h;rw[e1];simp only[]
  cases b1 with
  | false=>
   obtain⟨-,c2,c3⟩:=h3 rfl;subst c2;exact⟨s1,rfl,h1,h2,fun k l t hk hl ht=>c3 k (Nat.zero_le _) hk l hl t ht⟩
  | true=>
   have hlt:tot s1<tot s:=by
    rcases h4 rfl with h | h
    ·cases h
    ·exact h
   obtain⟨s2,e2,k1,k2,k3⟩:=Bd hv f s1 (by omega) h1;exact⟨s2,e2,k1,by omega,k3⟩
theorem aBo(hv:VF v)(h:Ah v s)(hfit:∀k l t,k<v.k.ahead.length->l<4->t<4->Fit v s k l t):iM (aF v) (jT s):=aBl (gK hv) h.z (fun k l t hk hl ht=>hfit k l t hk hl ht) h.most
end Th
end Go.Proofs.YtoebidlghdidoaaGreatDoor
