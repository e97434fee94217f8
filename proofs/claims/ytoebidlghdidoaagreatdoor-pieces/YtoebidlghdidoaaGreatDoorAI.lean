import Derived.Test.YtoebidlghdidoaaGreatDoorAH
import Derived.Lib.ItoaNum
namespace Go.Proofs.YtoebidlghdidoaaGreatDoor
open List
namespace Ld
def nX(c:UInt8):Bool:=decide (48<=c.toNat∧c.toNat<=57)
def pF(c:UInt8):Bool:=decide ((97<=c.toNat∧c.toNat<=100)∨(65<=c.toNat∧c.toNat<=68))
def run(p:UInt8->Bool)(l:List UInt8)(k:Nat):List UInt8:=(l.drop k).takeWhile p
def jm(n:Nat)(c:UInt8):Nat:=if n<=200 then n*10+(c.toNat-48) else n
def lu(t:List UInt8):Nat:=t.foldl jm 0
def jQ(t:List UInt8):Bool:=t.isEmpty||(decide (1<t.length)&&t.head?==some 48)
def dB(s:ByteArray)(c:UInt8)(k:Nat)(bad:Bool):Bool:=!bad&&decide (s.data.toList[k]?=some c)
def dL(s:ByteArray)(c:UInt8)(k:Nat)(bad:Bool):Nat × Bool:=if dB s c k bad=true then (k+1,bad) else (k,true)
def bW(s:ByteArray)(k:Nat)(bad:Bool):List UInt8 × Nat × Bool:=if dB s 45 k bad=true then ([],k+1,false) else (run pF s.data.toList k,k+(run pF s.data.toList k).length,(run pF s.data.toList k).isEmpty)
abbrev St:=M2.iL
def vO(s:ByteArray)(x:St × Nat × Bool):St × Nat × Bool:=let a:=dL s 32 x.2.1 x.2.2;let wd:=bW s a.1 a.2;let c:=dL s 58 wd.2.1 (a.2||wd.2.2);let t:=run nX s.data.toList c.1
 (⟨x.1.en,x.1.sd++[wd.1],x.1.nx++[lu t]⟩,c.1+t.length,c.2||jQ t)
def FX(s:ByteArray)(k:Nat)(bad:Bool):St × Nat × Bool:=let wd:=bW s k bad
 (⟨wd.1,[],[]⟩,wd.2.1,bad||wd.2.2)
def jb(s:ByteArray)(k:Nat)(bad:Bool):Nat->St × Nat × Bool
 | 0=>FX s k bad
 | n+1=>vO s (jb s k bad n)
def kX(s:ByteArray)(k:Nat)(bad:Bool):St × Nat × Bool:=let x:=jb s k bad 4;let a:=dL s 10 x.2.1 x.2.2
 (x.1,a.1,a.2)
def cZ(s:ByteArray):Nat->Nat->List St->Option (List St)
 | 0,k,acc=>if k<s.size then none else some acc
 | f+1,k,acc=>if k<s.size then (if acc.length=200 then none else if (kX s k false).2.2=true then none else cZ s f (kX s k false).2.1 (acc++[(kX s k false).1])) else some acc
def St.nexts(q:St):List Nat:=[q.nx.getD 0 0,q.nx.getD 1 0,q.nx.getD 2 0,q.nx.getD 3 0]
def St.JP(q:St):List (List UInt8):=[q.sd.getD 0 [],q.sd.getD 1 [],q.sd.getD 2 [],q.sd.getD 3 []]
def fZ(n:Nat):List Nat->Nat->Option Nat
 | [],m=>some m
 | t::ts,m=>if m<t∨n<=t then none else fZ n ts (if t=m then m+1 else m)
def kY(n:Nat):List St->Nat->Nat->Option Nat
 | [],_,m=>some m
 | q::qs,i,m=>if m<=i then none else match fZ n q.nexts m with
  | none=>none
  | some m'=>kY n qs (i+1) m'
def lK(aC:List St):Bool:=kY aC.length aC 0 1==some aC.length
def jI(c:UInt8):Nat:=if c=97 then 1 else if c=98 then 2 else if c=99 then 4 else if c=100 then 8 else if c=65 then 16 else if c=66 then 32 else if c=67 then 64 else if c=68 then 128 else 0
def lV(s:ByteArray):Nat:=if h:0<s.size then jI (s[0]'h) else 256
def bT(S:ByteArray)(N:Nat)(sets:List Nat):Nat:=if S.size=0 then sets.getD N 0 else lV S
def bgA(S0 S1 S2 S3 S4:ByteArray)(N0 N1 N2 N3:Nat)(sets:List Nat):Nat->Nat
 | 0=>lV S0
 | 1=>lV S0 ||| bT S1 N0 sets
 | 2=>lV S0 ||| bT S1 N0 sets ||| bT S2 N1 sets
 | 3=>lV S0 ||| bT S1 N0 sets ||| bT S2 N1 sets ||| bT S3 N2 sets
 | _=>lV S0 ||| bT S1 N0 sets ||| bT S2 N1 sets ||| bT S3 N2 sets ||| bT S4 N3 sets
def Sub(a b:Nat):Prop:=∀i,a.testBit i=true->b.testBit i=true
def St.str(l:List UInt8):ByteArray:=⟨l.toArray⟩
def uS(q:St)(sets:List Nat):Nat:=bgA (St.str q.en) (St.str (q.sd.getD 0 [])) (St.str (q.sd.getD 1 [])) (St.str (q.sd.getD 2 [])) (St.str (q.sd.getD 3 [])) (q.nx.getD 0 0) (q.nx.getD 1 0) (q.nx.getD 2 0) (q.nx.getD 3 0) sets 4
structure Good(aC:List St)(sets:List Nat):Prop where
 len:sets.length=aC.length
 lt:∀x∈sets,x<512
 inv:∀(k:Nat) (q:St),aC[k]?=some q->Sub (sets.getD k 0) (uS q sets)
def Fixed(aC:List St)(sets:List Nat):Prop:=∀(k:Nat) (q:St),aC[k]?=some q->sets[k]?=some (uS q sets)
def Within(aC:List St):Prop:=∀q∈aC,∀t∈q.nexts,t<aC.length
def JQ(p q:St):Bool:=(p.en==q.en)&&((p.sd.getD 0 []==q.sd.getD 0 [])&&((p.sd.getD 1 []==q.sd.getD 1 [])&&((p.sd.getD 2 []==q.sd.getD 2 [])&&(p.sd.getD 3 []==q.sd.getD 3 []))))
def jc(q:St):List St->Nat->Option Nat
 | [],_=>none
 | p::r,j=>if JQ p q then some j else jc q r (j+1)
def bsGo(aC:List St):Nat->Nat->List Nat->Nat->List Nat × Nat
 | 0,_,fin,c=>(fin,c)
 | k+1,i,fin,c=>match jc (aC.getD i ⟨[],[],[]⟩) (aC.take i) 0 with
  | some j=>bsGo aC k (i+1) (fin.set i (fin.getD j 0)) c
  | none=>bsGo aC k (i+1) (fin.set i c) (c+1)
def aIy(aC:List St):List Nat × Nat:=bsGo aC aC.length 0 (replicate aC.length 0) 0
def q4(q:St):aI.R4:=⟨q.nx.getD 0 0,q.nx.getD 1 0,q.nx.getD 2 0,q.nx.getD 3 0⟩
end Ld
namespace Tx
def dA(l:List UInt8):List UInt8:=if l=[] then [45] else l
def dX(sd:List UInt8)(n:Nat):List UInt8:=[32]++dA sd++[58]++Lib.decDigits n
def Z8(f s0 s1 s2 s3:List UInt8)(n0 n1 n2 n3:Nat):Nat->List UInt8
 | 0=>dA f
 | 1=>dA f++dX s0 n0
 | 2=>dA f++dX s0 n0++dX s1 n1
 | 3=>dA f++dX s0 n0++dX s1 n1++dX s2 n2
 | _=>dA f++dX s0 n0++dX s1 n1++dX s2 n2++dX s3 n3
def lineText(q:M2.iL):List UInt8:=Z8 q.en (q.sd.getD 0 []) (q.sd.getD 1 []) (q.sd.getD 2 []) (q.sd.getD 3 []) (q.nx.getD 0 0) (q.nx.getD 1 0) (q.nx.getD 2 0) (q.nx.getD 3 0) 4++[10]
def bV(aC:List M2.iL):List UInt8:=aC.flatMap lineText
end Tx
namespace Th
open aI (R4 isS lG num)
open M2 (View iL eU)
open Ld (fZ kY lK lV bT uS Good Fixed Sub JQ jc bsGo aIy q4 jI nX pF run lu jQ dB dL vO FX jb kX cZ)
open Tx (dA dX Z8 lineText bV)
variable {v:View} {aC:List iL} {a b l k n:Nat} {c:UInt8} {p q:iL} {w r:By}
theorem V3(n:Nat):∀(ts:List Nat) (m:Nat),fZ n ts m=KO n ts m
 | [],m=>rfl
 | t::ts,m=>by rw[fZ,KO];split;rfl;exact V3 n ts _
theorem V4(n:Nat):∀(qs:List iL) (i m:Nat),kY n qs i m=zC n qs i m
 | [],i,m=>rfl
 | q::qs,i,m=>by
  rw[kY,zC,V3];split
  ·rfl
  ·have e:KO n (Ld.St.nexts q) m=KO n [q.nx.getD 0 0,q.nx.getD 1 0,q.nx.getD 2 0,q.nx.getD 3 0] m:=rfl;rw[e];rcases KO n [q.nx.getD 0 0,q.nx.getD 1 0,q.nx.getD 2 0,q.nx.getD 3 0] m with _ | m'
   ·rfl
   ·exact V4 n qs _ _
theorem aDv(h:MFx v aC):lK aC=true:=by
 unfold lK;rw[V4,h.num];simp
theorem Wl(h:MFx v aC):Ld.Within aC:=fun q hq t ht=>by
 obtain⟨j,hj,rfl⟩:=mem_iff_getElem.1 hq;have:=fun l hl=>h.inn j _ l (bG hj) hl
 unfold Ld.St.nexts at ht;simp only[mem_cons,not_mem_nil,or_false]at ht;rcases ht with rfl | rfl | rfl | rfl
 ·exact this 0 (by omega)
 ·exact this 1 (by omega)
 ·exact this 2 (by omega)
 ·exact this 3 (by omega)
def fst(w:By):Nat:=lV (Ld.St.str w)
theorem aZ(w:By):(Ld.St.str w).size=w.length:=by
 unfold Ld.St.str;rfl
theorem aBP:fst []=256:=by
 unfold fst lV;rw[dif_neg (by rw[aZ];simp)]
theorem zW(c:UInt8)(w:By):fst (c::w)=jI c:=by
 unfold fst lV;rw[dif_pos (by rw[aZ];simp)];rfl
theorem aBQ{a b:By}(h:a≠[]):fst (a++b)=fst a:=by
 cases a with
 | nil=>exact absurd rfl h
 | cons c a=>rw[cons_append,zW,zW]
theorem kF:Sub a (a ||| b):=fun i hi=>by rw[Nat.testBit_or,hi];rfl
theorem zX:Sub b (a ||| b):=fun i hi=>by rw[Nat.testBit_or,hi];simp
theorem jK{c:Nat}(h:Sub a b)(k:Sub b c):Sub a c:=fun i hi=>k i (h i hi)
theorem aEV(q:iL)(sets:List Nat):Sub (fst q.en) (uS q sets):=jK kF (jK kF (jK kF kF))
theorem aBR(q:iL)(sets:List Nat)(hl:l<4):Sub (bT (Ld.St.str (q.sd.getD l [])) (q.nx.getD l 0) sets) (uS q sets):=by
 match l,hl with
 | 0,_=>exact jK zX (jK kF (jK kF kF))
 | 1,_=>exact jK zX (jK kF kF)
 | 2,_=>exact jK zX kF
 | 3,_=>exact zX
theorem O5{v:View}{aC:List iL}(h:MFx v aC){sets:List Nat}(hf:Fixed aC sets):∀(z:List Nat) (j:Nat),Wd z->j<aC.length->Sub (fst (kC aC j z)) (sets.getD j 0)
 | [],j,_,hj=>by
  have hq:=bG hj;have:=hf j _ hq;rw[fM,this,vN,oz hq];exact aEV _ _
 | l::z,j,hz,hj=>by
  have hq:=bG hj;have hl:=hz l mem_cons_self;have:=hf j _ hq;rw[fM,this,rG,oz hq];refine jK ?_ (aBR _ sets hl);unfold bT;rw[aZ];by_cases he:(aC[j].sd.getD l [])=[]
  ·rw[he,nil_append,aP length_nil];exact O5 h hf z _ (jU hz) (h.inn j _ l hq hl)
  ·rw[aBQ he,aU (fun e=>he (length_eq_zero_iff.1 e))];exact fun i hi=>hi
theorem O6:∀c:UInt8,isS c=true->∃i,i<8∧jI c=2^i:=by
 intro c hc;have hc':c.toNat=97∨c.toNat=98∨c.toNat=99∨c.toNat=100∨c.toNat=65∨c.toNat=66∨c.toNat=67∨c.toNat=68:=by
  unfold isS lG at hc;simp only[Bool.or_eq_true,decide_eq_true_eq]at hc;omega
 have hof:c=UInt8.ofNat c.toNat:=by simp
 rcases hc' with e | e | e | e | e | e | e | e <;> rw[e]at hof <;> subst hof
 ·exact⟨0,by omega,by decide⟩
 ·exact⟨1,by omega,by decide⟩
 ·exact⟨2,by omega,by decide⟩
 ·exact⟨3,by omega,by decide⟩
 ·exact⟨4,by omega,by decide⟩
 ·exact⟨5,by omega,by decide⟩
 ·exact⟨6,by omega,by decide⟩
 ·exact⟨7,by omega,by decide⟩
theorem aBS{d:UInt8}(hc:isS c=true)(hd:isS d=true)(h:jI c=jI d):c=d:=by
 have key:∀c:UInt8,isS c=true->c=97∨c=98∨c=99∨c=100∨c=65∨c=66∨c=67∨c=68:=fun c hc=>by
  have hof:c=UInt8.ofNat c.toNat:=by simp
  have hc':c.toNat=97∨c.toNat=98∨c.toNat=99∨c.toNat=100∨c.toNat=65∨c.toNat=66∨c.toNat=67∨c.toNat=68:=by
   unfold isS lG at hc;simp only[Bool.or_eq_true,decide_eq_true_eq]at hc;omega
  rcases hc' with e | e | e | e | e | e | e | e <;> rw[e]at hof <;> subst hof <;> simp
 rcases key c hc with rfl | rfl | rfl | rfl | rfl | rfl | rfl | rfl <;> rcases key d hd with rfl | rfl | rfl | rfl | rfl | rfl | rfl | rfl <;> first | rfl | (revert h;decide)
theorem Z9(h:MFx v aC)(hs:∀j,j<aC.length->∀z,Wd z->∀c∈kC aC j z,isS c=true){sets:List Nat}(hg:Good aC sets)(hf:Fixed aC sets):∀x∈sets,x<512∧(x.testBit 8=true∨∃i k,i≠k∧x.testBit i=true∧x.testBit k=true):=by
 intro x hx;refine⟨hg.lt x hx,?_⟩;obtain⟨j,hj,rfl⟩:=mem_iff_getElem.1 hx;have hj':j<aC.length:=by rw[<-hg.len];exact hj
 have hget:sets.getD j 0=sets[j]:=by rw[fM,bG hj];rfl
 have hin:=fun z hz=>O5 h hf z j hz hj'
 rw[hget]at hin;have hnil:Wd []:=fun x hx=>by cases hx
 by_cases he:∃z,Wd z∧kC aC j z=[]
 ·obtain⟨z,hz,e⟩:=he;left;have:=hin z hz;rw[e,aBP]at this;exact this 8 (by decide)
 ·right;have hne:∀z,Wd z->∃c w,kC aC j z=c::w:=fun z hz=>by
   cases hm:kC aC j z with
   | nil=>exact absurd ⟨z,hz,hm⟩ he
   | cons c w=>exact⟨c,w,rfl⟩
  obtain⟨c,w,hc⟩:=hne [] hnil;have:∃z d u,Wd z∧kC aC j z=d::u∧d≠c:=by
   apply Classical.byContradiction;intro hno;have:=h.bare j hj' [c] fun z hz=>by
    obtain⟨d,u,hd⟩:=hne z hz;have:d=c:=Classical.byContradiction fun hdc=>hno ⟨z,d,u,hz,hd,hdc⟩
    subst this;rw[hd];exact⟨u,rfl⟩
   cases this
  obtain⟨z,d,u,hz,hd,hdc⟩:=this;have sc:=hs j hj' [] hnil c (by rw[hc];exact mem_cons_self);have sd:=hs j hj' z hz d (by rw[hd];exact mem_cons_self);obtain⟨i,-,ei⟩:=O6 c sc;obtain⟨k,-,ek⟩:=O6 d sd;have h1:=hin [] hnil;have h2:=hin z hz;rw[hc,zW,ei]at h1;rw[hd,zW,ek]at h2;refine⟨i,k,fun e=>?_,h1 i (Nat.testBit_two_pow_self),h2 k (Nat.testBit_two_pow_self)⟩;subst e;exact hdc (aBS sd sc (ek.trans ei.symm))
def SQ(p q:iL):Prop:=p.en=q.en∧p.sd.getD 0 []=q.sd.getD 0 []∧p.sd.getD 1 []=q.sd.getD 1 []∧p.sd.getD 2 []=q.sd.getD 2 []∧p.sd.getD 3 []=q.sd.getD 3 []
theorem Wn:JQ p q=true↔SQ p q:=by
 unfold JQ SQ;simp only[Bool.and_eq_true,beq_iff_eq]
theorem SQ.symm(h:SQ p q):SQ q p:=⟨h.1.symm,h.2.1.symm,h.2.2.1.symm,h.2.2.2.1.symm,h.2.2.2.2.symm⟩
theorem SQ.trans{r:iL}(h:SQ p q)(k:SQ q r):SQ p r:=⟨h.1.trans k.1,h.2.1.trans k.2.1,h.2.2.1.trans k.2.2.1,h.2.2.2.1.trans k.2.2.2.1,h.2.2.2.2.trans k.2.2.2.2⟩
theorem SQ.sd(h:SQ p q)(hl:l<4):p.sd.getD l []=q.sd.getD l []:=by
 match l,hl with
 | 0,_=>exact h.2.1
 | 1,_=>exact h.2.2.1
 | 2,_=>exact h.2.2.2.1
 | 3,_=>exact h.2.2.2.2
theorem CS{q:iL}:∀(r:List iL) (j k:Nat),jc q r j=some k->j<=k∧∃p,r[k-j]?=some p∧SQ p q
 | [],j,k,h=>by rw[jc]at h;cases h
 | p::r,j,k,h=>by
  rw[jc]at h;split at h
  ·rename_i hs;cases h;exact⟨dH _,p,by simp,Wn.1 hs⟩
  ·obtain⟨h1,p',h2,h3⟩:=CS r (j+1) k h;refine⟨by omega,p',?_,h3⟩;rw[show k-j=(k-(j+1))+1 by omega,getElem?_cons_succ];exact h2
theorem Ar{f g:List Nat}(h:∀t,t<=k->gf f t=gf g t):yF f k=yF g k:=by
 rw[Bool.eq_iff_iff,dO,dO];constructor
 ·intro a j hj e;exact a j hj (by rw[h j (by omega),h k (dH _)];exact e)
 ·intro a j hj e;exact a j hj (by rw[<-h j (by omega),<-h k (dH _)];exact e)
theorem wW{f g:List Nat}:∀k,(∀t,t<k->gf f t=gf g t)->cnt f k=cnt g k
 | 0,_=>rfl
 | k+1,h=>by
  rw[dW,dW,wW k fun t ht=>h t (by omega),Ar (k:=k) fun t ht=>h t (by omega)]
structure BI(aC:List iL)(i:Nat)(fin:List Nat)(c:Nat):Prop where
 len:fin.length=aC.length
 lt:∀t,t<i->gf fin t<c
 num:c=cnt fin i
 ord:∀t,t<i->yF fin t=true->gf fin t=cnt fin t
 same:∀t t',t<i->t'<i->gf fin t=gf fin t'->SQ (I4 aC t) (I4 aC t')
theorem Kr{aC:List iL}:∀(k i:Nat) (fin:List Nat) (c:Nat),i+k=aC.length->BI aC i fin c->BI aC aC.length (bsGo aC k i fin c).1 (bsGo aC k i fin c).2
 | 0,i,fin,c,hk,h=>by
  rw[bsGo];have:i=aC.length:=by omega
  rw[<-this];exact h
 | k+1,i,fin,c,hk,h=>by
  have hi:i<fin.length:=by rw[h.len];omega
  have low:∀x t,t<i->gf (fin.set i x) t=gf fin t:=fun x t ht=>by rw[KU t hi,aU (by omega)]
  have at':∀x,gf (fin.set i x) i=x:=fun x=>by rw[KU i hi,aP rfl]
  have hcn:∀x,cnt (fin.set i x) i=c:=fun x=>by rw[h.num];exact wW i fun t ht=>low x t ht
  rw[bsGo];split
  ·rename_i j hj;obtain⟨-,p,h1,h2⟩:=CS _ 0 j hj;rw[Nat.sub_zero]at h1;have hjl:=(bU h1).1;rw[length_take]at hjl;have hji:j<i:=by omega
   rw[getElem?_take,aP hji]at h1;have hp:=oz h1;have hx:fin.getD j 0=gf fin j:=rfl;rw[hx];have hnf:¬yF (fin.set i (gf fin j)) i=true:=fun e=>dO.1 e j hji (by rw[low _ j hji,at'])
   have hsi:SQ (I4 aC i) (I4 aC j):=by rw[hp];exact h2.symm
   refine Kr k (i+1) _ c (by omega) ⟨by simp[h.len],fun t ht=>?_,?_,fun t ht hf=>?_,fun t t' ht ht' e=>?_⟩
   ·rcases iK t i with hlt | hge
    ·rw[low _ t hlt];exact h.lt t hlt
    ·rw[show t=i by omega,at'];exact h.lt j hji
   ·rw[dW,aU hnf,hcn,Nat.add_zero]
   ·rcases iK t i with hlt | hge
    ·rw[low _ t hlt,wW t fun u hu=>low _ u (by omega)];exact h.ord t hlt (by rwa [Ar (g:=fin) fun u hu=>low _ u (by omega)]at hf)
    ·rw[show t=i by omega]at hf;exact absurd hf hnf
   ·rcases iK t i with hlt | hge <;> rcases iK t' i with hlt' | hge'
    ·rw[low _ t hlt,low _ t' hlt']at e;exact h.same t t' hlt hlt' e
    ·rw[show t'=i by omega]at e ⊢;rw[low _ t hlt,at']at e;exact(h.same t j hlt hji e).trans hsi.symm
    ·rw[show t=i by omega]at e ⊢;rw[low _ t' hlt',at']at e;exact hsi.trans (h.same j t' hji hlt' e)
    ·rw[show t=i by omega,show t'=i by omega];exact⟨rfl,rfl,rfl,rfl,rfl⟩
  ·have hf':yF (fin.set i c) i=true:=dO.2 fun t ht e=>by
    rw[low _ t ht,at']at e;have:=h.lt t ht;omega
   refine Kr k (i+1) _ (c+1) (by omega) ⟨by simp[h.len],fun t ht=>?_,?_,fun t ht hf=>?_,fun t t' ht ht' e=>?_⟩
   ·rcases iK t i with hlt | hge
    ·rw[low _ t hlt];have:=h.lt t hlt;omega
    ·rw[show t=i by omega,at'];omega
   ·rw[dW,aP hf',hcn]
   ·rcases iK t i with hlt | hge
    ·rw[low _ t hlt,wW t fun u hu=>low _ u (by omega)];exact h.ord t hlt (by rwa [Ar (g:=fin) fun u hu=>low _ u (by omega)]at hf)
    ·rw[show t=i by omega,at',hcn]
   ·rcases iK t i with hlt | hge <;> rcases iK t' i with hlt' | hge'
    ·rw[low _ t hlt,low _ t' hlt']at e;exact h.same t t' hlt hlt' e
    ·rw[show t'=i by omega,low _ t hlt,at']at e;have:=h.lt t hlt;omega
    ·rw[show t=i by omega,low _ t' hlt',at']at e;have:=h.lt t' hlt';omega
    ·rw[show t=i by omega,show t'=i by omega];exact⟨rfl,rfl,rfl,rfl,rfl⟩
theorem Wp(h:MFx v aC):∃of,eU (aC.map q4) 200 201 (aIy aC)=some (of,aC.length):=by
 have hb:=Kr (aC:=aC) aC.length 0 (replicate aC.length 0) 0 (by omega) ⟨by simp,(fun t ht=>by omega),rfl,(fun t ht=>by omega),(fun t t' ht=>by omega)⟩;have hcls:Rf aC.length (aIy aC).1 (aIy aC).2:=⟨hb.len,hb.lt,hb.num,hb.ord⟩;have hnx:∀l i,l<4->i<aC.length->nxt (aC.map q4) l i=(I4 aC i).nx.getD l 0:=fun l i hl hi=>by
  unfold nxt gf;rw[fM,getElem?_map,getElem?_map,bG hi,oz (bG hi)]
  match l,hl with
  | 0,_=>rfl
  | 1,_=>rfl
  | 2,_=>rfl
  | 3,_=>rfl
 have hin:InN aC.length (aC.map q4):=⟨by simp,fun l i hl hi=>by
  rw[hnx l i hl hi,oz (bG hi)]
  exact h.inn i _ l (bG hi) hl⟩
 obtain⟨of,m,e1,e2,e3,e4⟩:=qC hin h.le 201 (aIy aC).1 (aIy aC).2 hcls (by have:=h.le;omega);have hrun:∀(z:List Nat) (i j:Nat),Wd z->i<aC.length->j<aC.length->gf of i=gf of j->kC aC i z=kC aC j z:=fun z=>by
  induction z with
  | nil=>
   intro i j _ hi hj e;rw[vN,vN];exact(hb.same i j hi hj (e3 i j hi hj e)).1
  | cons l z ih=>
   intro i j hz hi hj e;have hl:=hz l mem_cons_self;have hs:=hb.same i j hi hj (e3 i j hi hj e);have hst:=e4 l (Nat.zero_le _) hl i j hi hj e;rw[hnx l i hl hi,hnx l j hl hj]at hst;rw[rG,rG,hs.sd hl];congr 1;refine ih _ _ (jU hz) ?_ ?_ hst
   ·rw[oz (bG hi)];exact h.inn i _ l (bG hi) hl
   ·rw[oz (bG hj)];exact h.inn j _ l (bG hj) hl
 have hm:=Rh e2 fun i j hi hj e=>h.one i j hi hj fun z hz=>hrun z i j hz hi hj e
 rw[hm]at e1;exact⟨of,e1⟩
theorem JR(h:n<200):lu (Lib.decDigits n)=n∧jQ (Lib.decDigits n)=false∧(∀c∈Lib.decDigits n,nX c=true)∧1<=(Lib.decDigits n).length∧(Lib.decDigits n).length<=3:=by
 by_cases h1:n<10
 ·rw[Lib.decDigits_one h1];have:∀m,m<10->lu [UInt8.ofNat (48+m)]=m∧jQ [UInt8.ofNat (48+m)]=false∧(∀c∈[UInt8.ofNat (48+m)],nX c=true):=by decide +kernel
  exact⟨(this n h1).1,(this n h1).2.1,(this n h1).2.2,by simp,by simp⟩
 ·by_cases h2:n<100
  ·rw[Lib.decDigits_two h1 h2];have:∀m,m<100->¬m<10->lu [UInt8.ofNat (48+m/10),UInt8.ofNat (48+m%10)]=m∧jQ [UInt8.ofNat (48+m/10),UInt8.ofNat (48+m%10)]=false∧(∀c∈[UInt8.ofNat (48+m/10),UInt8.ofNat (48+m%10)],nX c=true):=by decide +kernel
   have:=this n h2 h1;exact⟨this.1,this.2.1,this.2.2,by simp,by simp⟩
  ·rw[Lib.decDigits,dif_neg h1,Lib.decDigits_two (by omega) (by omega)];have:∀m,m<200->¬m<100->lu ([UInt8.ofNat (48+m/10/10),UInt8.ofNat (48+m/10%10)]++[UInt8.ofNat (48+m%10)])=m∧jQ ([UInt8.ofNat (48+m/10/10),UInt8.ofNat (48+m/10%10)]++[UInt8.ofNat (48+m%10)])=false∧(∀c∈[UInt8.ofNat (48+m/10/10),UInt8.ofNat (48+m/10%10)]++[UInt8.ofNat (48+m%10)],nX c=true):=by decide +kernel
   have:=this n h h2;exact⟨this.1,this.2.1,this.2.2,by simp,by simp⟩
theorem Za(c:UInt8):isS c=pF c:=by
 unfold isS lG pF;rw[Bool.eq_iff_iff];simp only[Bool.or_eq_true,decide_eq_true_eq]
section
variable {s:ByteArray}
theorem Kt(h:s.data.toList.drop k=w)(i:Nat):s.data.toList[k+i]?=w[i]?:=by
 rw[<-h,getElem?_drop]
theorem jo{a b:By}(h:s.data.toList.drop k=a++b):s.data.toList.drop (k+a.length)=b:=by
 rw[<-drop_drop,h,drop_left]
theorem Ku(h:s.data.toList.drop k=c::r):dL s c k false=(k+1,false):=by
 have:=Kt h 0;unfold dL dB;rw[Nat.add_zero]at this;rw[this];simp
theorem V5(hw:∀c∈w,isS c=true)(h:s.data.toList.drop k=dA w++r)(hr:∀c,r[0]?=some c->pF c=false):Ld.bW s k false=(w,k+(dA w).length,false):=by
 unfold Ld.bW;by_cases he:w=[]
 ·subst he;have:dB s 45 k false=true:=by
   have:=Kt h 0;rw[Nat.add_zero]at this;unfold dB;rw[this];rfl
  rw[aP this];rfl
 ·have hwt:dA w=w:=by unfold dA;rw[aU he]
  rw[hwt]at h ⊢;have hrun:run pF s.data.toList k=w:=by
   unfold run;rw[h];exact kE w r (fun c hc=>by rw[<-Za];exact hw c hc) hr
  have hno:dB s 45 k false=false:=by
   obtain⟨c,w',rfl⟩:∃c w',w=c::w':=by
    cases w with
    | nil=>exact absurd rfl he
    | cons c w'=>exact⟨c,w',rfl⟩
   have:=Kt h 0;rw[Nat.add_zero]at this;unfold dB;rw[this];have hc:=hw c mem_cons_self;have:c≠45:=fun e=>by subst e;revert hc;decide
   simp[this]
  rw[hno,hrun];have:w.isEmpty=false:=by cases w with
   | nil=>exact absurd rfl he
   | cons=>rfl
  rw[this];rfl
theorem Dh{x:iL}(hn:n<200)(hw:∀c∈w,isS c=true)(h:s.data.toList.drop k=dX w n++r)(hr:∀c,r[0]?=some c->nX c=false):vO s (x,k,false)=(⟨x.en,x.sd++[w],x.nx++[n]⟩,k+(dX w n).length,false):=by
 obtain⟨d1,d2,d3,d4,-⟩:=JR hn;have h0:s.data.toList.drop k=32::(dA w++(58::(Lib.decDigits n++r))):=by
  rw[h];unfold dX;simp
 have h1:s.data.toList.drop (k+1)=dA w++(58::(Lib.decDigits n++r)):=jo (a:=[32]) h0;have h2:=jo h1;have h3:s.data.toList.drop (k+1+(dA w).length+1)=Lib.decDigits n++r:=jo (a:=[58]) h2;have hrun:run nX s.data.toList (k+1+(dA w).length+1)=Lib.decDigits n:=by
  unfold run;rw[h3];exact kE _ r d3 hr
 unfold vO;simp only[Ku h0,V5 hw h1 (fun c hc=>by simp at hc;subst hc;decide),Ku h2,hrun,d1,d2,Bool.or_self];congr 2;unfold dX;simp;omega
theorem tV(w:By)(n:Nat)(r:By):∀c,(dX w n++r)[0]?=some c->nX c=false∧pF c=false:=fun c hc=>by
 unfold dX at hc;simp at hc;subst hc;decide
theorem aBT(h4:q.sd.length=4∧q.nx.length=4)(hn:∀l,l<4->q.nx.getD l 0<200)(he:∀c∈q.en,isS c=true)(hs:∀l,l<4->∀c∈q.sd.getD l [],isS c=true)(h:s.data.toList.drop k=lineText q++r):kX s k false=(q,k+(lineText q).length,false):=by
 have hq:q=⟨q.en,[]++[q.sd.getD 0 []]++[q.sd.getD 1 []]++[q.sd.getD 2 []]++[q.sd.getD 3 []],[]++[q.nx.getD 0 0]++[q.nx.getD 1 0]++[q.nx.getD 2 0]++[q.nx.getD 3 0]⟩:=by
  obtain⟨en,sd,nx⟩:=q;obtain⟨h1,h2⟩:=h4;simp only at h1 h2
  match sd,h1,nx,h2 with
  | [a,b,c,d],_,[a',b',c',d'],_=>rfl
 obtain⟨P0,e0⟩:=eX (dX (q.sd.getD 0 []) (q.nx.getD 0 0));obtain⟨P1,e1⟩:=eX (dX (q.sd.getD 1 []) (q.nx.getD 1 0));obtain⟨P2,e2⟩:=eX (dX (q.sd.getD 2 []) (q.nx.getD 2 0));obtain⟨P3,e3⟩:=eX (dX (q.sd.getD 3 []) (q.nx.getD 3 0));have hlt:lineText q=dA q.en++(P0++(P1++(P2++(P3++[10])))):=by
  unfold lineText Z8;rw[e0,e1,e2,e3];simp
 rw[hlt]at h ⊢;have h0:s.data.toList.drop k=dA q.en++(P0++(P1++(P2++(P3++(10::r))))):=by rw[h];simp
 have h1:=jo h0;have h2:=jo h1;have h3:=jo h2;have h5:=jo h3;have h6:=jo h5;have f0:FX s k false=(⟨q.en,[],[]⟩,k+(dA q.en).length,false):=by
  unfold FX;rw[V5 he h0 (fun c hc=>by rw[e0]at hc;exact(tV _ _ _ c hc).2)];rfl
 have f1:=Dh (s:=s) (x:=⟨q.en,[],[]⟩) (hn 0 (by omega)) (hs 0 (by omega)) (by rw[<-e0];exact h1) (fun c hc=>by rw[e1]at hc;exact(tV _ _ _ c hc).1);have f2:=Dh (s:=s) (x:=⟨q.en,[]++[q.sd.getD 0 []],[]++[q.nx.getD 0 0]⟩) (hn 1 (by omega)) (hs 1 (by omega)) (by rw[<-e1];exact h2) (fun c hc=>by rw[e2]at hc;exact(tV _ _ _ c hc).1);have f3:=Dh (s:=s) (x:=⟨q.en,[]++[q.sd.getD 0 []]++[q.sd.getD 1 []],[]++[q.nx.getD 0 0]++[q.nx.getD 1 0]⟩) (hn 2 (by omega)) (hs 2 (by omega)) (by rw[<-e2];exact h3) (fun c hc=>by rw[e3]at hc;exact(tV _ _ _ c hc).1);have f4:=Dh (s:=s) (x:=⟨q.en,[]++[q.sd.getD 0 []]++[q.sd.getD 1 []]++[q.sd.getD 2 []],[]++[q.nx.getD 0 0]++[q.nx.getD 1 0]++[q.nx.getD 2 0]⟩) (hn 3 (by omega)) (hs 3 (by omega)) (by rw[<-e3];exact h5) (fun c hc=>by simp at hc;subst hc;decide);rw[<-e0]at f1;rw[<-e1]at f2;rw[<-e2]at f3;rw[<-e3]at f4;have hp:jb s k false 4=(q,k+(dA q.en).length+P0.length+P1.length+P2.length+P3.length,false):=by
  show vO s (vO s (vO s (vO s (FX s k false))))=_;rw[f0,f1,f2,f3,f4];exact congrArg (fun x=>(x,_)) hq.symm
 unfold kX;simp only[hp,Ku h6];congr 2;simp;omega
theorem O7(q:iL):1<=(lineText q).length:=by
 unfold lineText;simp
structure Wr(q:iL):Prop where
 four:q.sd.length=4∧q.nx.length=4
 nx:∀l,l<4->q.nx.getD l 0<200
 en:∀c∈q.en,isS c=true
 sd:∀l,l<4->∀c∈q.sd.getD l [],isS c=true
theorem V6:∀(rest:List iL) (f k:Nat) (acc:List iL),(∀q∈rest,Wr q)->s.data.toList.drop k=bV rest->rest.length<=f->acc.length+rest.length<=200->cZ s f k acc=some (acc++rest)
 | [],f,k,acc,_,h,_,_=>by
  have hk:¬k<s.size:=fun hlt=>by
   have e:=congrArg length h;have e2:s.data.toList.length=s.size:=Array.length_toList;simp[bV]at e;have:s.size=s.data.size:=rfl;omega
  cases f <;> simp[cZ,hk]
 | q::rest,f,k,acc,hw,h,hf,hl=>by
  rw[length_cons]at hf hl;obtain⟨g,rfl⟩:∃g,f=g+1:=⟨f-1,by omega⟩;have hq:=hw q mem_cons_self;have h':s.data.toList.drop k=lineText q++bV rest:=by rw[h];simp[bV]
  have hk:k<s.size:=by
   have e:=congrArg length h';rw[length_drop,length_append]at e;have:=O7 q;have e2:s.data.toList.length=s.size:=Array.length_toList;omega
  have CU:=aBT hq.four hq.nx hq.en hq.sd h';rw[cZ,aP hk,aU (by omega),CU];simp only[Bool.false_eq_true,if_false];rw[V6 rest g _ (acc++[q]) (fun x hx=>hw x (mem_cons_of_mem _ hx)) (jo h') (by omega) (by rw[length_append,length_singleton];omega),append_assoc];rfl
end
theorem Wq(hw:∀q∈aC,Wr q)(hl:aC.length<=200):cZ ⟨(bV aC).toArray⟩ (⟨(bV aC).toArray⟩:ByteArray).size 0 []=some aC:=by
 have hd:(⟨(bV aC).toArray⟩:ByteArray).data.toList=bV aC:=by simp
 have hsz:(⟨(bV aC).toArray⟩:ByteArray).size=(bV aC).length:=rfl;have hlen:∀l:List iL,l.length<=(bV l).length:=fun l=>by
  induction l with
  | nil=>simp
  | cons q l ih=>
   have:=O7 q;have e:bV (q::l)=lineText q++bV l:=by simp[bV]
   rw[e,length_append,length_cons];omega
 have:=V6 (s:=⟨(bV aC).toArray⟩) aC (bV aC).length 0 [] hw (by rw[drop_zero,hd]) (hlen aC) (by simpa using hl);rw[hsz,this];rfl
theorem aEW(h:MFx v aC)(hs:∀(j:Nat) (q:iL),aC[j]?=some q->(∀c∈q.en,isS c=true)∧∀l,l<4->∀c∈q.sd.getD l [],isS c=true):∀q∈aC,Wr q:=fun q hq=>by
 have h4:=h.four q hq;obtain⟨j,hj,rfl⟩:=mem_iff_getElem.1 hq;have hg:=bG hj;exact⟨h4,fun l hl=>Nat.lt_of_lt_of_le (h.inn j _ l hg hl) h.le,(hs j _ hg).1,(hs j _ hg).2⟩
theorem Rt(hv:VF v)(h:MFx v aC):(bV aC).length<=1048576:=by
 have CU:∀q∈aC,(lineText q).length<=5000:=fun q hq=>by
  obtain⟨j,hj,rfl⟩:=mem_iff_getElem.1 hq;have hg:=bG hj;obtain⟨l1,l2⟩:=aDt hv h hg;have wl:∀w:By,w.length<=800->(dA w).length<=801:=fun w hw=>by
   unfold dA;split
   ·simp
   ·omega
  have pl:∀l,l<4->(dX (aC[j].sd.getD l []) (aC[j].nx.getD l 0)).length<=806:=fun l hl=>by
   have a:=wl _ (l2 l hl);have b:=JR (Nat.lt_of_lt_of_le (h.inn j _ l hg hl) h.le);unfold dX;simp only[length_append,length_cons,length_nil];omega
  have a0:=pl 0 (by omega);have a1:=pl 1 (by omega);have a2:=pl 2 (by omega);have a3:=pl 3 (by omega);have ae:=wl _ l1;unfold lineText Z8;simp only[length_append,length_cons,length_nil];omega
 have hall:∀l:List iL,(∀q∈l,(lineText q).length<=5000)->(bV l).length<=5000*l.length:=fun l=>by
  induction l with
  | nil=>intro _;simp[bV]
  | cons q l ih=>
   intro hl;have a:=hl q mem_cons_self;have b:=ih fun x hx=>hl x (mem_cons_of_mem _ hx)
   have e:bV (q::l)=lineText q++bV l:=by simp[bV]
   rw[e,length_append,length_cons];omega
 have:=hall aC CU;have:=h.le;omega
end Th
namespace Th
open aI (Rule isS lG cZ num)
open M2 (View iL pY aT)
open M3 (view states find)
open Tx (bV)
variable {l:List LR} {rs:List Rule} {v:View} {k:Nat} {c:UInt8} {w:By}
structure aBU(l:List LR)(w:pY):Prop where
 loop:∃a∈l,fK a.c=true
 y0:w.y≠[]
 small:Small w
 wb:Wb w.x∧Wb w.y∧Wb w.z1∧Wb w.z2
 part:∀n,n<=uO (wV l 0 (ak (w.x++rep w.y (n+w.c)++w.z1))) (wV l 0 (ak (w.x++rep w.y (n+w.c)++w.z2)))
theorem Zb(h:mZ l rs)(ho:∀a∈l,a.Ok)(hv:view rs=some (some v)){w:pY}(e:find v=some (some w)):aBU l w:=by
 obtain⟨hvf,hk,-⟩:=sZ hv;have hw:=find_ok hvf hk e;refine⟨?_,hw.y0,Rq h ho hv e,hw.wb,fun n=>?_⟩
 ·apply Classical.byContradiction;intro hno;refine RN hvf (m:=9) (fun p z z' hp hz hz'=>ZW h hv (fun a ha=>?_) p z z' hp hz hz') hw
  cases hl:fK a.c with
  | false=>rfl
  | true=>exact absurd ⟨a,ha,hl⟩ hno
 ·have:=hw.part n;unfold R at this;have hwd:∀z:By,ak w.x++(rep (ak w.y) (n+w.c)++ak z)=ak (w.x++rep w.y (n+w.c)++z):=fun z=>by rw[gQ,gQ,yw,append_assoc]
  rw[hwd,hwd,tN h hv _ 0 (qX _),tN h hv _ 0 (qX _)]at this;exact this
structure JS(aC:List iL):Prop where
 pos:1<=aC.length
 le:aC.length<=200
 num:Ld.lK aC=true
 inn:Ld.Within aC
 early:∀sets,Ld.Good aC sets->Ld.Fixed aC sets->∀x∈sets,x<512∧(x.testBit 8=true∨∃i k,i≠k∧x.testBit i=true∧x.testBit k=true)
 differ:∃of,M2.eU (aC.map Ld.q4) 200 201 (Ld.aIy aC)=some (of,aC.length)
 read:Ld.cZ ⟨(bV aC).toArray⟩ (⟨(bV aC).toArray⟩:ByteArray).size 0 []=some aC
 small:(bV aC).length<=1048576
theorem Zc(h:mZ l rs)(ho:∀a∈l,a.Ok)(hv:view rs=some (some v)){aC:List iL}(hm:lC v aC):JS aC:=by
 obtain⟨hvf,hk,-⟩:=sZ hv;have fx:=aBO hm;have hs:=fun(j:Nat) (q:iL) (hq:aC[j]?=some q)=>aDu h ho hv fx hq
 refine⟨fx.pos,fx.le,aDv fx,Wl fx,fun sets hg hf=>Z9 fx (fun j hj z hz c hc=>?_) hg hf,Wp fx,Wq (aEW fx hs) fx.le,Rt hvf fx⟩;obtain⟨r,E,hw,-,hR⟩:=fx.par j hj;have hwd:Wd (r.reverse++z):=fun x hx=>by
  rcases mem_append.1 hx with h | h
  ·exact Z5 hw x h
  ·exact hz x h
 have:c∈R (aF v) (r.reverse++z):=by rw[hR z hz];exact mem_append_right _ hc
 unfold R at this;rw[tN h hv _ 0 hwd]at this;exact FW ho _ 0 hwd c this
inductive Comes(l:List LR):Nat->Prop
 | big (limit:Nat) (rs:List Rule):cZ 1000 (aQ l) 0 []=some (rs,0,0)->rs.length≠0->view rs=some none->Comes l limit
 | twin (limit:Nat) (rs:List Rule) (v:View) (w:pY):cZ 1000 (aQ l) 0 []=some (rs,0,0)->rs.length≠0->view rs=some (some v)->states v limit=some none->find v=some (some w)->aBU l w->Comes l limit
 | much (limit:Nat) (rs:List Rule) (v:View):cZ 1000 (aQ l) 0 []=some (rs,0,0)->rs.length≠0->view rs=some (some v)->states v limit=some none->find v=some none->Comes l limit
 | made (limit:Nat) (rs:List Rule) (v:View) (aC:List iL):cZ 1000 (aQ l) 0 []=some (rs,0,0)->rs.length≠0->view rs=some (some v)->states v limit=some (some aC)->aC.length<=limit->find v=some none->JS aC->states v aC.length=some (some aC)->(∀m,m<aC.length->states v m=some none)->Comes l limit
theorem comes(ho:∀a∈l,a.Ok)(h1:1<=l.length)(h4:l.length<=4){limit:Nat}(hl1:1<=limit)(hl2:limit<=200):Comes l limit:=by
 obtain⟨rs,hrs,hread⟩:=FH l 1000 0 [] (by omega) ho;rw[aU (by omega),nil_append]at hread;have hlen:∀{l:List LR} {rs:List Rule},mZ l rs->rs.length=l.length:=fun {l}=>by
  induction l with
  | nil=>intro rs h;cases rs with
   | nil=>rfl
   | cons=>exact h.elim
  | cons a l ih=>intro rs h;cases rs with
   | nil=>exact h.elim
   | cons r rs=>rw[length_cons,length_cons,ih h.2]
 have hne:rs.length≠0:=by rw[hlen hrs];omega
 obtain⟨res,hv⟩:=Rk (rs:=rs) (fun e=>hne (by rw[e];rfl)) (yI hrs);rcases res with _ | v
 ·exact Comes.big limit rs hread hne hv
 ·obtain⟨hvf,hk,-⟩:=sZ hv;obtain⟨sr,hst,hsr⟩:=KT hvf hk hl1 hl2;rcases sr with _ | aC
  ·obtain⟨fr,hf⟩:=Ej hvf hk;rcases fr with _ | w
   ·exact Comes.much limit rs v hread hne hv hst hf
   ·exact Comes.twin limit rs v w hread hne hv hst hf (Zb hrs ho hv hf)
  ·obtain⟨hm,hle⟩:=hsr aC rfl;obtain⟨s1,s2⟩:=Nz hst (Em hm);exact Comes.made limit rs v aC hread hne hv hst hle (aBD hvf hk hm) (Zc hrs ho hv hm) s1 s2
theorem O8(ho:∀a∈l,a.Ok)(hn:l.length<1∨4<l.length)(hl:l.length<1000):cZ 1000 (aQ l) 0 []=some ([],0,2):=by
 obtain⟨rs,-,hread⟩:=FH l 1000 0 [] hl ho;rw[hread,aP (by omega)]
def jJ(c:Int)(n:Nat):Nat:=((if c<0 then -(c+1) else c)%(n:Int)).toNat
def aV:Nat->Nat->By
 | _,0=>[]
 | k,n+1=>UInt8.ofNat (97+k%4)::aV (k/4) n
def signs:By:=[97,98,99,100,65,66,67,68]
def jF(n:Nat)(s:By):By:=s.map fun c=>signs.getD (c.toNat%n) 0
def zY(f b c:Nat):C:=if f=1 then .word (aV b (1+c%3))
 else if f=2 then .any (aV (c/3) (1+b%2))
 else if f=3 then .or (aV b (1+c%3)) (aV (c/3) (1+b%2))
 else if f=4 then (if UInt8.ofNat (97+b%4)=UInt8.ofNat (97+c/3%4) then .word [UInt8.ofNat (97+b%4)] else .loop (UInt8.ofNat (97+b%4)) (UInt8.ofNat (97+c/3%4)))
 else if f=5 then .ac
 else if f=6 then .nb (aV (c/3) (1+b%2))
 else .no
def CV(s:By):By:=(if jF 4 s=[] then [97] else jF 4 s).take 4
def JU(s:By):By:=(jF 8 s).take 4
structure xY where
 form:Int
 b:Int
 c:Int
 fr:By
 tt:By
def xY.ctx(o:xY):C:=zY (jJ o.form 9) (jJ o.b 1048576) (jJ o.c 1048576)
def xY.law(o:xY):LR:=⟨CV o.fr,JU o.tt,o.ctx⟩
theorem wX(k:Nat):lG (UInt8.ofNat (97+k%4))=true:=by
 have:k%4<4:=Nat.mod_lt _ (by omega)
 match k%4,this with
 | 0,_=>decide
 | 1,_=>decide
 | 2,_=>decide
 | 3,_=>decide
theorem pG:∀(n k:Nat),Wb (aV k n)∧(aV k n).length=n
 | 0,k=>⟨(fun c hc=>by cases hc),rfl⟩
 | n+1,k=>by
  obtain⟨h1,h2⟩:=pG n (k/4);refine⟨fun c hc=>?_,by rw[aV,length_cons,h2]⟩;rw[aV]at hc;rcases mem_cons.1 hc with rfl | hc
  ·exact wX k
  ·exact h1 c hc
theorem V7(f b c:Nat):(zY f b c).Ok:=by
 have u:=pG (1+c%3) b;have v:=pG (1+b%2) (c/3);have h3:c%3<3:=Nat.mod_lt _ (by omega);have h2:b%2<2:=Nat.mod_lt _ (by omega);have hu:Wb (aV b (1+c%3))∧1<=(aV b (1+c%3)).length∧(aV b (1+c%3)).length<=3:=⟨u.1,by rw[u.2];omega,by rw[u.2];omega⟩;have hv:Wb (aV (c/3) (1+b%2))∧1<=(aV (c/3) (1+b%2)).length∧(aV (c/3) (1+b%2)).length<=2:=⟨v.1,by rw[v.2];omega,by rw[v.2];omega⟩;unfold zY;split
 ·exact hu
 split
 ·exact hv
 split
 ·exact⟨hu,hv⟩
 split
 ·split
  ·exact⟨fun x hx=>by rw[mem_singleton.1 hx];exact wX b,by simp,by simp⟩
  ·rename_i hne;exact⟨wX b,wX (c/3),hne⟩
 split
 ·trivial
 split
 ·exact hv
 ·trivial
theorem aBV(h:k<4):lG (signs.getD k 0)=true:=by
 match k,h with
 | 0,_=>decide
 | 1,_=>decide
 | 2,_=>decide
 | 3,_=>decide
theorem aBW(h:k<8):isS (signs.getD k 0)=true:=by
 match k,h with
 | 0,_=>decide
 | 1,_=>decide
 | 2,_=>decide
 | 3,_=>decide
 | 4,_=>decide
 | 5,_=>decide
 | 6,_=>decide
 | 7,_=>decide
theorem aDw(o:xY):o.law.Ok:=by
 refine⟨⟨?_,?_,?_,?_,?_⟩,V7 _ _ _⟩
 ·intro c hc;have hc:=mem_of_mem_take hc;split at hc
  ·rw[mem_singleton.1 hc];decide
  ·obtain⟨x,-,rfl⟩:=mem_map.1 hc;exact aBV (Nat.mod_lt _ (by omega))
 ·show 1<=(CV o.fr).length;unfold CV;rw[length_take];split
  ·simp
  ·rename_i hne;have:=length_pos_iff.2 hne;omega
 ·show (CV o.fr).length<=4;unfold CV;rw[length_take];omega
 ·intro c hc;have hc:=mem_of_mem_take hc;obtain⟨x,-,rfl⟩:=mem_map.1 hc;exact aBW (Nat.mod_lt _ (by omega))
 ·show (JU o.tt).length<=4;unfold JU;rw[length_take];omega
def C.words:C->List By
 | .word u=>[u]
 | .any v=>[97::v,98::v,99::v,100::v]
 | .or u v=>[u,v]
 | .ac=>[[97],[99]]
 | .nb v=>[97::v,99::v,100::v]
 | _=>[]
def C.loopA:C->UInt8
 | .loop x _=>x
 | _=>0
def C.qJ:C->UInt8
 | .loop _ y=>y
 | _=>0
def stands(t w:By)(i:Nat):Bool:=decide (t.length<=w.length-i)&&decide ((w.drop i).take t.length=t)
def xI(ws:List By)(w:By)(i:Nat):Bool:=ws.any (fun t=>stands t w i)||ws.isEmpty
def JV(a b:UInt8):By->Bool
 | []=>false
 | c::w=>(c==b)||(c==a&&JV a b w)
def pI(c:C)(w:By)(i:Nat):Bool:=if fK c then JV c.loopA c.qJ (w.drop i) else xI c.words w i
theorem Kv{d:UInt8}(hc:lG c=true)(hd:lG d=true):(num c==num d)=(c==d):=by
 have hc':=hc;have hd':=hd;unfold lG at hc' hd';have h1:=of_decide_eq_true hc';have h2:=of_decide_eq_true hd';rw[Bool.eq_iff_iff,beq_iff_eq,beq_iff_eq];unfold num;rw[aP hc,aP hd];constructor
 ·intro h;apply UInt8.toNat_inj.1;omega
 ·rintro rfl;rfl
theorem yJ:∀(t w:By),Wb t->Wb w->stands t w 0=qh (ak t) (ak w)
 | [],w,_,_=>by simp[stands,ak,qh]
 | c::t,[],_,_=>by simp[stands,ak,qh]
 | c::t,d::w,ht,hw=>by
  have ih:=yJ t w (fun x hx=>ht x (mem_cons_of_mem _ hx)) (fun x hx=>hw x (mem_cons_of_mem _ hx));rw[show ak (c::t)=num c::ak t from rfl,show ak (d::w)=num d::ak w from rfl,qh,<-ih,Kv (hw d mem_cons_self) (ht c mem_cons_self)];unfold stands;simp only[drop_zero,length_cons,take_succ_cons,Nat.sub_zero];by_cases e:d=c
  ·subst e;simp
  ·have:(d==c)=false:=by simpa using e
   rw[this];simp[e]
theorem aIR(t w:By)(i:Nat):stands t w i=stands t (w.drop i) 0:=by
 unfold stands;rw[length_drop,drop_zero,Nat.sub_zero]
theorem V8(h:Wb w)(i:Nat):Wb (w.drop i):=fun c hc=>h c (mem_of_mem_drop hc)
theorem tX(hc:lG c=true)(h:Wb w):Wb (c::w):=fun x hx=>by
 rcases mem_cons.1 hx with rfl | hx
 ·exact hc
 ·exact h x hx
theorem V9{x y:UInt8}(hx:lG x=true)(hy:lG y=true):∀w,Wb w->JV x y w=xX (num x) (num y) (ak w)
 | [],_=>rfl
 | c::w,hw=>by
  have hc:=hw c mem_cons_self;rw[show ak (c::w)=num c::ak w from rfl,xX,Kv hc hy,Kv hc hx,JV,V9 hx hy w fun z hz=>hw z (mem_cons_of_mem _ hz)]
theorem aDx{c:C}(hc:c.Ok)(hw:Wb w)(i:Nat):pI c w i=c.YW (ak (w.drop i)):=by
 have hwd:=V8 hw i;have st:∀t,Wb t->stands t w i=qh (ak t) (ak (w.drop i)):=fun t ht=>by rw[aIR,yJ t _ ht hwd]
 match c,hc with
 | .no,_=>rfl
 | .word u,h=>
  show xI [u] w i=qh (ak u) _;unfold xI;simp[st u h.1]
 | .any v,h=>
  show xI [97::v,98::v,99::v,100::v] w i=_;unfold xI;simp only[any_cons,any_nil,isEmpty_cons,Bool.or_false];rw[st _ (tX (by decide) h.1),st _ (tX (by decide) h.1),st _ (tX (by decide) h.1),st _ (tX (by decide) h.1)];rcases e:w.drop i with _ | ⟨d,r⟩
  ·rfl
  ·have hd:=aIE d;show (qh (0::ak v) (num d::ak r)||(qh (1::ak v) (num d::ak r)||(qh (2::ak v) (num d::ak r)||qh (3::ak v) (num d::ak r))))=qh (ak v) (ak r);simp only[qh]
   match num d,hd with
   | 0,_=>simp
   | 1,_=>simp
   | 2,_=>simp
   | 3,_=>simp
 | .or u v,h=>
  show xI [u,v] w i=_;unfold xI;simp[st u h.1.1,st v h.2.1,C.YW]
 | .loop x y,h=>
  show JV x y (w.drop i)=_;exact V9 h.1 h.2.1 _ hwd
 | .ac,_=>
  show xI [[97],[99]] w i=_;unfold xI;simp only[any_cons,any_nil,isEmpty_cons,Bool.or_false];rw[st _ (fun c hc=>by rw[mem_singleton.1 hc];decide),st _ (fun c hc=>by rw[mem_singleton.1 hc];decide)];rcases e:w.drop i with _ | ⟨d,r⟩
  ·rfl
  ·show (qh [0] (num d::ak r)||qh [2] (num d::ak r))=(num d==0||num d==2);simp[qh]
 | .nb v,h=>
  show xI [97::v,99::v,100::v] w i=_;unfold xI;simp only[any_cons,any_nil,isEmpty_cons,Bool.or_false];rw[st _ (tX (by decide) h.1),st _ (tX (by decide) h.1),st _ (tX (by decide) h.1)];rcases e:w.drop i with _ | ⟨d,r⟩
  ·rfl
  ·have hd:=aIE d;show (qh (0::ak v) (num d::ak r)||(qh (2::ak v) (num d::ak r)||qh (3::ak v) (num d::ak r)))=(!(num d==1)&&qh (ak v) (ak r));simp only[qh]
   match num d,hd with
   | 0,_=>simp
   | 1,_=>simp
   | 2,_=>simp
   | 3,_=>simp
def aDy(a:LR)(w:By)(i:Nat):Bool:=stands a.fr w i&&pI a.c w (i+a.fr.length)
theorem aDz{a:LR}(ha:a.Ok)(hw:Wb w)(i:Nat):aDy a w i=ZU a (ak (w.drop i)):=by
 unfold aDy ZU;rw[aIR,yJ _ _ ha.side.fl (V8 hw i),aDx ha.c hw,<-drop_drop];unfold ak;simp only[map_drop]
theorem Ru(h:lG c=true):aT (num c)=[c]:=by
 have h':=h;unfold lG at h';have h2:=of_decide_eq_true h';unfold aT num;rw[aP h,show 97+(c.toNat-97)=c.toNat by omega];simp
theorem Va(l:List LR):∀(m:Nat) (z:List Nat),wV l m z=wV l 0 (z.drop m)
 | 0,z=>rfl
 | m+1,[]=>by simp[wV]
 | m+1,k::z=>by
  rw[wV,drop_succ_cons];exact Va l m z
theorem aBX(hw:Wb w){i:Nat}(hi:i<w.length):wV l 0 (ak (w.drop i))=if 0<(jV l (ak (w.drop i)) (0,[])).1 then (jV l (ak (w.drop i)) (0,[])).2++wV l 0 (ak (w.drop (i+(jV l (ak (w.drop i)) (0,[])).1))) else w[i]::wV l 0 (ak (w.drop (i+1))):=by
 have hc:=hw w[i] (getElem_mem hi);have e:ak (w.drop i)=num w[i]::ak (w.drop (i+1)):=by
  rw[kJ hi];rfl
 generalize hd:jV l (ak (w.drop i)) (0,[])=d;rw[e,wV,<-e,hd];by_cases h0:0<d.1
 ·rw[aP h0,aP h0,Va];congr 2;unfold ak;rw[<-map_drop,drop_drop,show i+1+(d.1-1)=i+d.1 by omega]
 ·rw[aU h0,aU h0,Ru hc];rfl
end Th
end Go.Proofs.YtoebidlghdidoaaGreatDoor
