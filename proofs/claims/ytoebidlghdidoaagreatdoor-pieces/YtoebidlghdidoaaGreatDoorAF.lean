import Derived.Test.YtoebidlghdidoaaGreatDoorAE
namespace Go.Proofs.YtoebidlghdidoaaGreatDoor
open List
namespace Th
open aI (R4 Rule Place Piece has bit PS sees eY iW nP ku dN bW nN lW IV fB DF bC iZ sJ mJ allOf dS aX lG isS rising uX)
open M2 (Auto Meet dZ kQ walk oL fD View dI oN fQ lX jM iR BZ iJ jv eU pX bF jR qA jH aT dU)
open M3 (view jO qV IW)
variable {n x l st last i K f d:Nat} {m m':Meet} {g:Nat->Nat} {r:Rule} {a:Auto} {rs:List Rule} {v:View} {z S:List Nat} {ps:List Place} {k:dI} {s c:By} {w:Piece} {p p1 p2:PS}
theorem KY{v:Nat}(h:(replicate n 0)[x]?=some (v+1)):False:=by
 rw[getElem?_replicate]at h;split at h
 ·cases h
 ·cases h
def MI(m:Meet):Prop:=∀x v,m.nums[x]?=some (v+1)->m.met[v]?=some x
theorem jl{k:Nat}(h:MI m)(e:dZ m x=some (k,m')):MI m'∧m'.met[k]?=some x∧∃more,m'.met=m.met++more:=by
 unfold dZ at e;split at e
 ·cases e
 ·injection e with e;injection e with e1 e2;subst e1 e2;refine⟨fun y v hy=>?_,by simp,[x],rfl⟩;simp only at hy ⊢;rw[getElem?_set]at hy;split at hy
  ·rename_i hx;split at hy
   ·injection hy with hy;have:v=m.met.length:=by omega
    subst this;subst hx;simp
   ·cases hy
  ·have:=h y v hy;rw[jG (bU this).1];exact this
 ·rename_i v hv;injection e with e;injection e with e1 e2;subst e1 e2;exact⟨h,h x _ hv,[],by simp⟩
theorem VO{r:R4}(h:MI m)(e:M2.four (fun l m=>dZ m (g l)) m=some (r,m')):MI m'∧(∃more,m'.met=m.met++more)∧∀l,l<4->m'.met[kz r l]?=some (g l):=by
 unfold M2.four at e;split at e
 ·cases e
 ·rename_i a m1 e1;split at e
  ·cases e
  ·rename_i b m2 e2;split at e
   ·cases e
   ·rename_i c m3 e3;split at e
    ·cases e
    ·rename_i d m4 e4;injection e with e;injection e with f1 f2;subst f1 f2;obtain⟨a1,a2,x1,a3⟩:=jl h e1;obtain⟨b1,b2,x2,b3⟩:=jl a1 e2;obtain⟨c1,c2,x3,c3⟩:=jl b1 e3;obtain⟨d1,d2,x4,d3⟩:=jl c1 e4;have up':∀{A B M:List Nat} {j x:Nat},B=A++M->A[j]?=some x->B[j]?=some x:=fun hB hx=>by
      rw[hB,jG (bU hx).1];exact hx
     refine⟨d1,⟨x1++(x2++(x3++x4)),by rw[d3,c3,b3,a3];simp⟩,fun l hl=>?_⟩
     match l,hl with
     | 0,_=>exact up' d3 (up' c3 (up' b3 a2))
     | 1,_=>exact up' d3 (up' c3 b2)
     | 2,_=>exact up' d3 c2
     | 3,_=>exact d2
structure WI(ps:List aI.Place)(wh:aI.Piece)(i:Nat)(m:Meet)(a:Auto):Prop where
 mi:MI m
 nl:a.nx.length=i
 hl:a.hit.length=i
 le:i<=m.met.length
 is:∀j,j<i->∃st,m.met[j]?=some st∧a.hit[j]?=some (decide (st=fD ps))∧∀l,l<4->m.met[uQ a j l]?=some (oL ps wh st l)
theorem OG{ps:List aI.Place}{wh:aI.Piece}:∀(f i:Nat) (m:Meet) (a b:Auto),WI ps wh i m a->kQ ps wh f i m a=some b->∃m',(∃more,m'.met=m.met++more)∧WI ps wh m'.met.length m' b
 | 0,i,m,a,b,_,e=>by rw[kQ]at e;cases e
 | f+1,i,m,a,b,h,e=>by
  rw[kQ]at e;split at e
  ·rename_i hn;cases e;have h1:=List.getElem?_eq_none_iff.1 hn;have h2:=h.le;have:m.met.length=i:=by omega
   exact⟨m,⟨[],by simp⟩,by rw[this];exact h⟩
  ·rename_i st hst;split at e
   ·cases e
   ·rename_i r m1 hr;obtain⟨a1,⟨x1,a2⟩,a3⟩:=VO h.mi hr;have up':∀{j x:Nat},m.met[j]?=some x->m1.met[j]?=some x:=fun hx=>by
     rw[a2,jG (bU hx).1];exact hx
    have hil:=(bU hst).1;have hw:WI ps wh (i+1) m1 ⟨a.nx++[r],a.hit++[decide (st=fD ps)]⟩:=by
     refine⟨a1,by simp[h.nl],by simp[h.hl],by rw[a2,length_append];omega,fun j hj=>?_⟩;rcases iK j i with hlt | hge
     ·obtain⟨s,c1,c2,c3⟩:=h.is j hlt;refine⟨s,up' c1,?_,fun l hl=>?_⟩
      ·simp only;rw[jG (by rw[h.hl];exact hlt)];exact c2
      ·have:uQ ⟨a.nx++[r],a.hit++[decide (st=fD ps)]⟩ j l=uQ a j l:=by
        unfold uQ;simp only[getD_eq_getElem?_getD];rw[jG (by rw[h.nl];exact hlt)]
       rw[this];exact up' (c3 l hl)
     ·have:j=i:=by omega
      subst this;refine⟨st,up' hst,?_,fun l hl=>?_⟩
      ·simp only;rw[<-h.hl,mW (dH _),Nat.sub_self];rfl
      ·have:uQ ⟨a.nx++[r],a.hit++[decide (st=fD ps)]⟩ j l=kz r l:=by
        unfold uQ;simp only[getD_eq_getElem?_getD];rw[<-h.nl,mW (dH _),Nat.sub_self];rfl
       rw[this];exact a3 l hl
    obtain⟨m2,⟨x2,b1⟩,b2⟩:=OG f (i+1) m1 _ b hw e;exact⟨m2,⟨x1++x2,by rw[b1,a2,append_assoc]⟩,b2⟩
def runN(ps:List aI.Place)(wh:aI.Piece):Nat->List Nat->Nat
 | st,[]=>st
 | st,l::z=>runN ps wh (oL ps wh st l) z
theorem Et(h:walk r=some a):AE a∧0<a.nx.length∧∀z,Wd z->ig a 0 z=decide (runN r.ps r.wh (if r.wh.e then fD r.ps else r.wh.f) z=fD r.ps):=by
 unfold walk at h;split at h
 ·cases h
 ·split at h
  ·cases h
  ·rename_i k m hk;have h0:MI ⟨[],replicate (fD r.ps+1) 0⟩:=fun x v hx=>(KY hx).elim
   obtain⟨a1,a2,x1,a3⟩:=jl h0 hk;have hk0:k=0:=by
    unfold dZ at hk;split at hk
    ·cases hk
    ·injection hk with hk;injection hk with e1 e2;exact e1.symm
    ·rename_i v hv;exact(KY hv).elim
   subst hk0;obtain⟨m2,⟨x2,b1⟩,b2⟩:=OG _ 0 m ⟨[],[]⟩ a ⟨a1,rfl,rfl,Nat.zero_le _,fun j hj=>by omega⟩ h;have hfirst:m2.met[0]?=some (if r.wh.e then fD r.ps else r.wh.f):=by
    rw[b1,jG (bU a2).1];exact a2
   have hrun:∀(z:List Nat) (j st:Nat),Wd z->m2.met[j]?=some st->ig a j z=decide (runN r.ps r.wh st z=fD r.ps):=fun z=>by
    induction z with
    | nil=>
     intro j st _ hj;obtain⟨s,c1,c2,-⟩:=b2.is j (bU hj).1;rw[hj]at c1;cases c1;rw[ig,runN,fM,c2];rfl
    | cons l z ih=>
     intro j st hz hj;obtain⟨s,c1,-,c3⟩:=b2.is j (bU hj).1;rw[hj]at c1;cases c1;rw[ig,runN];exact ih _ _ (fun y hy=>hz y (mem_cons_of_mem _ hy)) (c3 l (hz l mem_cons_self))
   refine⟨⟨by rw[b2.hl,b2.nl],fun t l ht hl=>?_⟩,by rw[b2.nl];exact(bU hfirst).1,fun z hz=>hrun z 0 _ hz hfirst⟩;rw[b2.nl]at ht ⊢;obtain⟨s,-,-,c3⟩:=b2.is t ht;exact(bU (c3 l hl)).1
def strikes(r:Rule)(z:List Nat):Bool:=decide (runN r.ps r.wh (if r.wh.e then fD r.ps else r.wh.f) z=fD r.ps)
def JL(hit:Rule->Bool):List Rule->Nat × By->Nat × By
 | r::rs,d=>JL hit rs (if hit r&&decide (d.1<r.fr.length) then (r.fr.length,r.tt) else d)
 | [],d=>d
theorem Eu{hit:Nat->Bool}{hr:Rule->Bool}:∀(rs:List Rule) (ss:List Nat) (d:Nat × By),ss.length=rs.length->(∀(j:Nat) (r:Rule) (s:Nat),rs[j]?=some r->ss[j]?=some s->hit s=hr r)->best hit rs ss d=JL hr rs d
 | [],ss,d,_,_=>by
  cases ss <;> rfl
 | r::rs,[],d,h,_=>by simp at h
 | r::rs,s::ss,d,h,hj=>by
  rw[best,JL,hj 0 r s rfl rfl];exact Eu rs ss _ (by simpa using h) fun j r' s' a b=>hj (j+1) r' s' (by simpa using a) (by simpa using b)
theorem least_walk{b:Auto}(h:jM r=some (some b)):∃a,walk r=some a:=by
 unfold jM at h;split at h
 ·cases h
 ·rename_i a ha;exact⟨a,ha⟩
theorem VQ(h:view rs=some (some v)){ss:List Nat}(hl:jO rs ⟨[],[]⟩ []=some (some (a,ss))):a.nx.length<=60:=by
 unfold view at h;rw[hl]at h;simp only[]at h;split at h
 ·cases h
 ·omega
theorem Ri(h:view rs=some (some v))(h60:∀r∈rs,∀a,walk r=some a->a.nx.length<=60)(hz:Wd z):v.jX[kind (aF v) z]?=some (JL (fun r=>strikes r z) rs (0,[])):=by
 obtain⟨hv,-,a,ss,hl,hki,hd⟩:=sZ h;have h6:=VQ h hl;have hall:∀r∈rs,∀b,jM r=some (some b)->AE b∧∀z,Wd z->ig b 0 z=strikes r z:=fun r hr b hb=>by
  obtain⟨a',ha'⟩:=least_walk hb;obtain⟨w1,w2,w3⟩:=Et ha';obtain⟨k1,k2⟩:=JK ha' w1 w2 (h60 r hr a' ha') hb;exact⟨k1,fun z hz=>(k2 z hz).trans (w3 z hz)⟩
 obtain⟨i1,-,-,s2,i4,i5,i6⟩:=Ep rs ⟨[],[]⟩ [] a ss ⟨rfl,fun t l ht=>by simp at ht⟩ (fun r hr b hb=>(hall r hr b hb).1) hl;rw[nil_append]at i4;subst i4;have hA:xU a:=⟨i1.hl,h6,i1.en⟩;have hkl:kind (aF v) z<v.k.ahead.length:=wL (gK hv) z hz;have:=(rD v.k.ahead.length 0 v.jX hd).2 _ hkl;rw[this,Nat.zero_add];congr 1;refine Eu rs ss (0,[]) i5 fun j r s hj hs=>?_
 obtain⟨b,b1,b2,b3⟩:=i6 j r s hj hs;have hr:=iI hj;have e:=WV hA hki v.jX hz (t:=s) b2;rw[show (⟨v.k,v.jX⟩:View)=v from rfl]at e;rw[e,b3 z hz,(hall r hr b b1).2 z hz]
theorem qE(s p:Nat):has s p=s.testBit p:=by
 unfold has bit;rw[Nat.one_shiftLeft];by_cases h:s.testBit p=true
 ·rw[h];have:s &&& 2^p≠0:=fun e=>by
   have h2:(s &&& 2^p).testBit p=true:=by rw[Nat.testBit_and,h,Nat.testBit_two_pow_self];rfl
   rw[e]at h2;simp at h2
  simp[this]
 ·have hf:s.testBit p=false:=by simpa using h
  rw[hf];have:s &&& 2^p=0:=by
   apply Nat.eq_of_testBit_eq;intro i;rw[Nat.testBit_and,Nat.zero_testBit];by_cases hi:p=i
   ·subst hi;rw[hf];rfl
   ·rw[Nat.testBit_two_pow_of_ne hi,Bool.and_false]
  simp[this]
theorem ZF(s t p:Nat):has (s ||| t) p=(has s p||has t p):=by rw[qE,qE,qE,Nat.testBit_or]
theorem ZG{s p:Nat}(h:s<2^n)(hp:has s p=true):p<n:=by
 rw[qE]at hp;apply Classical.byContradiction;intro hn;have:s<2^p:=Nat.lt_of_lt_of_le h (Nat.pow_le_pow_right (by omega) (by omega));rw[Nat.testBit_lt_two_pow this]at hp;cases hp
def NOk(ps:List Place):Prop:=∀p∈ps,p.n<2^ps.length
def jP(ps:List Place)(last:Nat):List Nat->Nat->Bool
 | [],_=>false
 | l::z,i=>match ps[i]? with
  | none=>false
  | some p=>p.t.getD l false&&(has last i||(range ps.length).any fun j=>has p.n j&&jP ps last z j)
def DK(ps:List Place)(last:Nat)(st:Nat)(z:List Nat):Bool:=(range ps.length).any fun j=>has st j&&jP ps last z j
theorem kW(l st last:Nat):∀(ps:List Place) (i nx:Nat),(iR l st last ps i nx=none↔∃k p,ps[k]?=some p∧has st (i+k)=true∧p.t.getD l false=true∧has last (i+k)=true)∧∀x,iR l st last ps i nx=some x->∀j,has x j=true↔(has nx j=true∨∃k p,ps[k]?=some p∧has st (i+k)=true∧p.t.getD l false=true∧has p.n j=true)
 | [],i,nx=>by
  rw[iR];refine⟨⟨(fun h=>by cases h),fun⟨k,p,h,_⟩=>by simp at h⟩,fun x h j=>?_⟩;cases h;exact⟨Or.inl,fun h=>h.elim id fun⟨k,p,h,_⟩=>by simp at h⟩
 | p::ps,i,nx=>by
  have shift:∀(Q:Place->Nat->Prop),(∃k q,(p::ps)[k]?=some q∧Q q (i+k))↔(Q p i∨∃k q,ps[k]?=some q∧Q q (i+1+k)):=fun Q=>by
   constructor
   ·rintro⟨k,q,h1,h2⟩;rcases k with _ | k
    ·simp at h1;subst h1;exact Or.inl h2
    ·simp at h1;exact Or.inr ⟨k,q,h1,by rwa [show i+1+k=i+(k+1) by omega]⟩
   ·rintro(h | ⟨k,q,h1,h2⟩)
    ·exact⟨0,p,by simp,h⟩
    ·exact⟨k+1,q,by simpa using h1,by rwa [show i+(k+1)=i+1+k by omega]⟩
  have s1:=shift fun q k=>has st k=true∧q.t.getD l false=true∧has last k=true
  have s2:=fun j=>shift fun q k=>has st k=true∧q.t.getD l false=true∧has q.n j=true
  simp only[s1,s2];rw[iR];by_cases h1:(!has st i||!(p.t.getD l false))=true
  ·rw[aP h1];obtain⟨a,b⟩:=kW l st last ps (i+1) nx;have hn:¬(has st i=true∧p.t.getD l false=true):=fun⟨x,y⟩=>by rw[x,y]at h1;cases h1
   refine⟨?_,fun x hx j=>?_⟩
   ·rw[a];exact⟨Or.inr,fun h=>h.elim (fun⟨x,y,_⟩=>(hn ⟨x,y⟩).elim) id⟩
   ·rw[b x hx j];exact⟨fun h=>h.elim Or.inl fun h=>Or.inr (Or.inr h),fun h=>h.elim Or.inl fun h=>h.elim (fun⟨x,y,_⟩=>(hn ⟨x,y⟩).elim) Or.inr⟩
  ·rw[aU h1];have hy:has st i=true∧p.t.getD l false=true:=by
    cases h2:has st i <;> cases h3:p.t.getD l false <;> simp_all
   by_cases h4:has last i=true
   ·rw[aP h4];exact⟨⟨fun _=>Or.inl ⟨hy.1,hy.2,h4⟩,fun _=>rfl⟩,fun x hx=>by cases hx⟩
   ·rw[aU h4];obtain⟨a,b⟩:=kW l st last ps (i+1) (nx ||| p.n);refine⟨?_,fun x hx j=>?_⟩
    ·rw[a];exact⟨Or.inr,fun h=>h.elim (fun⟨_,_,y⟩=>(h4 y).elim) id⟩
    ·rw[b x hx j,ZF,Bool.or_eq_true];constructor
     ·rintro((h | h) | h)
      ·exact Or.inl h
      ·exact Or.inr (Or.inl ⟨hy.1,hy.2,h⟩)
      ·exact Or.inr (Or.inr h)
     ·rintro(h | h | h)
      ·exact Or.inl (Or.inl h)
      ·exact Or.inl (Or.inr h.2.2)
      ·exact Or.inr h
theorem o8(ps:List Place):fD ps=2^ps.length:=by unfold fD bit;rw[Nat.one_shiftLeft]
theorem WX(h:NOk ps)(e:iR l st last ps 0 0=some x):x<2^ps.length:=by
 apply Nat.lt_pow_two_of_testBit;intro i hi;apply Classical.byContradiction;intro hn;have hx:has x i=true:=by rw[qE];simpa using hn
 rcases((kW l st last ps 0 0).2 x e i).1 hx with h0 | ⟨k,p,h1,-,-,h4⟩
 ·rw[qE]at h0;simp at h0
 ·have:=ZG (h p (iI h1)) h4;omega
theorem aIB:DK ps last st z=true↔∃j,j<ps.length∧has st j=true∧jP ps last z j=true:=by
 unfold DK;rw[any_eq_true];exact⟨fun⟨j,h1,h2⟩=>⟨j,mem_range.1 h1,by simpa using h2⟩,fun⟨j,h1,h2,h3⟩=>⟨j,mem_range.2 h1,by simp[h2,h3]⟩⟩
theorem zQ(ps:List Place)(wh:Piece):∀z,runN ps wh (fD ps) z=fD ps
 | []=>rfl
 | l::z=>by
  rw[runN,oL,aP rfl];exact zQ ps wh z
theorem wS{ps:List Place}(wh:Piece)(h:NOk ps):∀(z:List Nat) (st:Nat),st<2^ps.length->(decide (runN ps wh st z=fD ps)=DK ps wh.l st z)
 | [],st,hs=>by
  rw[runN,o8];have:¬st=2^ps.length:=by omega
  rw[lT this];unfold DK;simp[jP]
 | l::z,st,hs=>by
  have hne:¬st=fD ps:=by rw[o8];omega
  rw[runN,oL,aU hne];rcases e:iR l st wh.l ps 0 0 with _ | x
  ·rw[BZ,zQ,decide_eq_true rfl];symm;rw[aIB];obtain⟨k,p,h1,h2,h3,h4⟩:=(kW l st wh.l ps 0 0).1.1 e;rw[Nat.zero_add]at h2 h4;exact⟨k,(bU h1).1,h2,by rw[jP,h1];simp only[];rw[h3,h4];rfl⟩
  ·rw[BZ,wS wh h z x (WX h e)];have hx:=(kW l st wh.l ps 0 0).2 x e;have hno:∀k p,ps[k]?=some p->has st k=true->p.t.getD l false=true->has wh.l k=true->False:=fun k p h1 h2 h3 h4=>by
    have:=(kW l st wh.l ps 0 0).1.2 ⟨k,p,h1,by rwa [Nat.zero_add],h3,by rwa [Nat.zero_add]⟩;rw[e]at this;cases this
   rw[Bool.eq_iff_iff,aIB,aIB];constructor
   ·rintro⟨j,j1,j2,j3⟩;rcases(hx j).1 j2 with h0 | ⟨k,p,h1,h2,h3,h4⟩
    ·rw[qE]at h0;simp at h0
    ·rw[Nat.zero_add]at h2;refine⟨k,(bU h1).1,h2,?_⟩;rw[jP,h1];simp only[];rw[h3,Bool.true_and,Bool.or_eq_true];right;exact any_eq_true.2 ⟨j,mem_range.2 j1,by rw[h4,j3];rfl⟩
   ·rintro⟨k,k1,k2,k3⟩;rw[jP,bG k1]at k3;simp only[]at k3;rw[Bool.and_eq_true,Bool.or_eq_true]at k3;obtain⟨c1,c2 | c2⟩:=k3
    ·exact(hno k _ (bG k1) k2 c1 c2).elim
    ·obtain⟨j,j1,j2⟩:=any_eq_true.1 c2;rw[Bool.and_eq_true]at j2;exact⟨j,mem_range.1 j1,(hx j).2 (Or.inr ⟨k,_,bG k1,by rwa [Nat.zero_add],c1,j2.1⟩),j2.2⟩
theorem Am{ps:List Place}{last:Nat}(h:∀i p j,ps[i]?=some p->has p.n j=true->i<j)(z z':List Nat):∀(p:List Nat) (i:Nat),ps.length<=i+p.length->jP ps last (p++z) i=jP ps last (p++z') i
 | [],i,hi=>by
  have hn:=getElem?_eq_none (by simpa using hi);cases z <;> cases z' <;> simp[jP,hn]
 | l::p,i,hi=>by
  rw[cons_append,cons_append,jP,jP];rcases hp:ps[i]? with _ | q
  ·rfl
  ·simp only[];congr 2;apply congrArg
   funext j
   by_cases hj:has q.n j=true
   ·rw[Am h z z' p j (by have:=h i q j hp hj;rw[length_cons]at hi;omega)]
   ·have:has q.n j=false:=by simpa using hj
    rw[this,Bool.false_and,Bool.false_and]
theorem OH{ps:List Place}{last:Nat}(h:∀i p j,ps[i]?=some p->has p.n j=true->i<=j)(x:Nat)(z:List Nat):∀(d i k:Nat),ps.length<=i+d->d<=k->jP ps last (replicate (k+1) x++z) i=jP ps last (replicate k x++z) i
 | 0,i,k,hd,_=>by
  have hn:=getElem?_eq_none (by simpa using hd);have:∀w,jP ps last w i=false:=fun w=>by cases w <;> simp[jP,hn]
  rw[this,this]
 | d+1,i,k,hd,hk=>by
  obtain⟨m,rfl⟩:∃m,k=m+1:=⟨k-1,by omega⟩;rcases hp:ps[i]? with _ | q
  ·have:∀w,jP ps last w i=false:=fun w=>by cases w <;> simp[jP,hp]
   rw[this,this]
  ·have one:∀w,jP ps last (x::w) i=(q.t.getD x false&&(has last i||(range ps.length).any fun j=>has q.n j&&jP ps last w j)):=fun w=>by rw[jP,hp]
   have eq:∀m,replicate (m+1) x++z=x::(replicate m x++z):=fun m=>by rw[replicate_succ];rfl
   rw[eq (m+1),eq m,one,one];by_cases hx:q.t.getD x false=true
   ·by_cases hl:has last i=true
    ·rw[hl,Bool.true_or,Bool.true_or]
    ·have hl':has last i=false:=by simpa using hl
     rw[hx,hl',Bool.true_and,Bool.true_and,Bool.false_or,Bool.false_or];have hlow:∀j,i<j->jP ps last (replicate (m+1) x++z) j=jP ps last (replicate m x++z) j:=fun j hj=>OH h x z d j m (by omega) (by omega)
     rw[Bool.eq_iff_iff,any_eq_true,any_eq_true];simp only[mem_range,Bool.and_eq_true];constructor
     ·rintro⟨j,j1,j2,j3⟩;rcases iK i j with hj | hj
      ·exact⟨j,j1,j2,by rw[<-hlow j hj,eq m];exact j3⟩
      ·have:i=j:=by have:=h i q j hp j2;omega
       subst this;rw[one,hx,hl',Bool.true_and,Bool.false_or,any_eq_true]at j3;obtain⟨u,u1,u2⟩:=j3;rw[Bool.and_eq_true]at u2;exact⟨u,mem_range.1 u1,u2⟩
     ·rintro⟨j,j1,j2,j3⟩;rcases iK i j with hj | hj
      ·exact⟨j,j1,j2,by rw[<-eq m,hlow j hj];exact j3⟩
      ·have:i=j:=by have:=h i q j hp j2;omega
       subst this;refine⟨i,j1,j2,?_⟩;rw[one,hx,hl',Bool.true_and,Bool.false_or];exact any_eq_true.2 ⟨i,mem_range.2 j1,by rw[j2,j3];rfl⟩
   ·have hx':q.t.getD x false=false:=by simpa using hx
    rw[hx',Bool.false_and,Bool.false_and]
def yG(st last:Nat):List Nat->Nat->Nat->List (Option Nat)
 | [],_,nx=>[some nx]
 | n::ns,i,nx=>if has st i then yG st last ns (i+1) nx++(if has last i then [none] else yG st last ns (i+1) (nx ||| n)) else yG st last ns (i+1) nx
theorem qF(l st last:Nat):∀(ps:List Place) (i nx:Nat),iR l st last ps i nx∈yG st last (ps.map Place.n) i nx
 | [],i,nx=>by rw[iR];exact mem_singleton.2 rfl
 | p::ps,i,nx=>by
  rw[iR,map_cons,yG];by_cases h:has st i=true
  ·rw[aP h,h];rw[mem_append];by_cases ht:p.t.getD l false=true
   ·rw[ht,aU (by simp)];right;split
    ·exact mem_singleton.2 rfl
    ·exact qF l st last ps (i+1) _
   ·have ht':p.t.getD l false=false:=by simpa using ht
    rw[ht',aP (by simp)];left;exact qF l st last ps (i+1) nx
  ·have h':has st i=false:=by simpa using h
   rw[aU h,aP (by rw[h'];rfl)];exact qF l st last ps (i+1) nx
def VR(ns:List Nat)(last:Nat)(S:List Nat):Bool:=S.all fun st=>st==2^ns.length||(yG st last ns 0 0).all fun o=>S.contains (BZ (2^ns.length) o)
def ZH(ns:List Nat)(first last:Nat)(S:List Nat):Bool:=decide (ns.length<=18)&&decide (S.length<=60)&&S.contains first&&VR ns last S&&(S.all fun st=>decide (st<=2^ns.length))&&(ns.all fun n=>decide (n<2^ns.length))&&decide (first<2^ns.length)
structure Few(r:Rule)(S:List Nat):Prop where
 len:r.ps.length<=18
 sl:S.length<=60
 e:r.wh.e=false
 fs:r.wh.f∈S
 cl:∀st∈S,∀l,oL r.ps r.wh st l∈S
 le:∀st∈S,st<=2^r.ps.length
 nok:NOk r.ps
 fl:r.wh.f<2^r.ps.length
theorem aDe(he:r.wh.e=false)(h:ZH (r.ps.map Place.n) r.wh.f r.wh.l S=true):Few r S:=by
 unfold ZH VR at h;simp only[Bool.and_eq_true,decide_eq_true_eq,all_eq_true,length_map,Bool.or_eq_true,beq_iff_eq,contains_iff_mem]at h;obtain⟨⟨⟨⟨⟨⟨h1,h2⟩,h3⟩,h4⟩,h5⟩,h6⟩,h7⟩:=h;refine⟨h1,h2,he,h3,fun st hst l=>?_,h5,fun p hp=>h6 _ (mem_map.2 ⟨p,hp,rfl⟩),h7⟩;unfold oL;split
 ·exact hst
 ·rename_i hne;rcases h4 st hst with h | h
  ·rw[o8]at hne;exact absurd h hne
  ·rw[o8];exact h _ (qF l st r.wh.l r.ps 0 0)
structure MW(ps:List Place)(S:List Nat)(m:Meet):Prop where
 mi:MI m
 nl:m.nums.length=fD ps+1
 bk:∀x∈m.met,∃v,m.nums[x]?=some (v+1)
 nd:m.met.Nodup
 sub:∀x∈m.met,x∈S
theorem lJ(hS:∀st∈S,st<=2^ps.length)(h:MW ps S m)(hx:x∈S):∃k m',dZ m x=some (k,m')∧MW ps S m':=by
 have hlt:x<m.nums.length:=by rw[h.nl,o8];have:=hS x hx;omega
 unfold dZ;rw[bG hlt];rcases e:m.nums[x]with _ | v
 ·refine⟨_,_,rfl,?_⟩;have e':m.nums[x]?=some 0:=by rw[bG hlt,e]
  have hn:dZ m x=some (m.met.length,⟨m.met++[x],m.nums.set x (m.met.length+1)⟩):=by unfold dZ;rw[e']
  obtain⟨a1,-,-⟩:=jl h.mi hn;refine⟨a1,by simp[h.nl],fun y hy=>?_,yE h.nd fun hm=>?_,fun y hy=>?_⟩
  ·simp only[]at hy ⊢;rw[getElem?_set];rcases mem_append.1 hy with hy | hy
   ·obtain⟨v,hv⟩:=h.bk y hy;by_cases hxy:x=y
    ·subst hxy;rw[e']at hv;cases hv
    ·rw[aU hxy];exact⟨v,hv⟩
   ·have:y=x:=mem_singleton.1 hy;subst this;rw[aP rfl,aP hlt];exact⟨_,rfl⟩
  ·obtain⟨v,hv⟩:=h.bk x hm;rw[e']at hv;cases hv
  ·rcases mem_append.1 hy with hy | hy
   ·exact h.sub y hy
   ·rw[mem_singleton.1 hy];exact hx
 ·exact⟨v,m,rfl,h⟩
theorem Rj(hS:∀st∈S,st<=2^ps.length)(hg:∀l,g l∈S)(h:MW ps S m):∃r m',M2.four (fun l m=>dZ m (g l)) m=some (r,m')∧MW ps S m':=by
 obtain⟨a,m1,e1,h1⟩:=lJ hS h (hg 0);obtain⟨b,m2,e2,h2⟩:=lJ hS h1 (hg 1);obtain⟨c,m3,e3,h3⟩:=lJ hS h2 (hg 2);obtain⟨d,m4,e4,h4⟩:=lJ hS h3 (hg 3);exact⟨⟨a,b,c,d⟩,m4,by unfold M2.four;simp only[e1,e2,e3,e4],h4⟩
theorem aDf(hS:∀st∈S,st<=2^ps.length)(h:MW ps S m):m.met.length<=fD ps+1:=by
 refine mX _ _ h.nd fun x hx=>?_
 rw[o8];have:=hS x (h.sub x hx);omega
theorem VS:∀(l S:List Nat),l.Nodup->(∀x∈l,x∈S)->l.length<=S.length
 | [],S,_,_=>Nat.zero_le _
 | x::l,S,hd,h=>by
  obtain⟨h1,h2⟩:=nodup_cons.1 hd;have hx:=h x mem_cons_self;have:=VS l (S.erase x) h2 fun y hy=>(mem_erase_of_ne fun(e:y=x)=>h1 (e ▸ hy)).2 (h y (mem_cons_of_mem _ hy))
  rw[length_erase_of_mem hx]at this;have hp:=length_pos_of_mem hx;rw[length_cons];omega
theorem CG{r:Rule}{S:List Nat}(hf:Few r S):∀(f i:Nat) (m:Meet) (a:Auto),fD r.ps+2<=f+i->i<=m.met.length->MW r.ps S m->WI r.ps r.wh i m a->∃b m',kQ r.ps r.wh f i m a=some b∧MW r.ps S m'∧WI r.ps r.wh m'.met.length m' b∧∃more,m'.met=m.met++more
 | 0,i,m,a,hfu,hi,h,_=>by
  have:=aDf hf.le h;omega
 | f+1,i,m,a,hfu,hi,h,w=>by
  rw[kQ];rcases e:m.met[i]? with _ | st
  ·have:=List.getElem?_eq_none_iff.1 e;have hie:i=m.met.length:=by omega
   subst hie;exact⟨a,m,rfl,h,w,[],by simp⟩
  ·simp only[];have hst:=h.sub st (iI e);obtain⟨q,m1,e1,h1⟩:=Rj hf.le (hf.cl st hst) h;rw[e1];simp only[];obtain⟨c1,⟨x1,c2⟩,c3⟩:=VO h.mi e1;have hil:=(bU e).1;have hw:WI r.ps r.wh (i+1) m1 ⟨a.nx++[q],a.hit++[decide (st=fD r.ps)]⟩:=by
    have up':∀{j x:Nat},m.met[j]?=some x->m1.met[j]?=some x:=fun hx=>by
     rw[c2,jG (bU hx).1];exact hx
    refine⟨c1,by simp[w.nl],by simp[w.hl],by rw[c2,length_append];omega,fun j hj=>?_⟩;rcases iK j i with hlt | hge
    ·obtain⟨s,d1,d2,d3⟩:=w.is j hlt;refine⟨s,up' d1,?_,fun l hl=>?_⟩
     ·simp only;rw[jG (by rw[w.hl];exact hlt)];exact d2
     ·have:uQ ⟨a.nx++[q],a.hit++[decide (st=fD r.ps)]⟩ j l=uQ a j l:=by
       unfold uQ;simp only[getD_eq_getElem?_getD];rw[jG (by rw[w.nl];exact hlt)]
      rw[this];exact up' (d3 l hl)
    ·have:j=i:=by omega
     subst this;refine⟨st,up' e,?_,fun l hl=>?_⟩
     ·simp only;rw[<-w.hl,mW (dH _),Nat.sub_self];rfl
     ·have:uQ ⟨a.nx++[q],a.hit++[decide (st=fD r.ps)]⟩ j l=kz q l:=by
       unfold uQ;simp only[getD_eq_getElem?_getD];rw[<-w.nl,mW (dH _),Nat.sub_self];rfl
      rw[this];exact c3 l hl
   obtain⟨b,m2,k1,k2,k3,x2,k4⟩:=CG hf f (i+1) m1 _ (by omega) (by rw[c2,length_append];omega) h1 hw;exact⟨b,m2,k1,k2,k3,x1++x2,by rw[k4,c2,append_assoc]⟩
def Runs(r:Rule)(a:Auto):Prop:=∀t,t<a.nx.length->∃st,st<=2^r.ps.length∧∀z,Wd z->ig a t z=decide (runN r.ps r.wh st z=fD r.ps)
theorem OI(hf:Few r S):∃a,walk r=some a∧AE a∧0<a.nx.length∧a.nx.length<=60∧Runs r a:=by
 have h0:MW r.ps S ⟨[],replicate (fD r.ps+1) 0⟩:=⟨fun x v hx=>(KY hx).elim,by simp,(fun x hx=>by cases hx),nodup_nil,(fun x hx=>by cases hx)⟩;obtain⟨k,m,e1,h1⟩:=lJ hf.le h0 hf.fs;have hw:WI r.ps r.wh 0 m ⟨[],[]⟩:=⟨h1.mi,rfl,rfl,Nat.zero_le _,fun j hj=>by omega⟩;obtain⟨a,m2,e2,h2,w2,-⟩:=CG hf (fD r.ps+2) 0 m ⟨[],[]⟩ (by omega) (Nat.zero_le _) h1 hw;have hwk:walk r=some a:=by
  unfold walk;rw[aU (by have:=hf.len;omega),hf.e];simp only[Bool.false_eq_true,if_false];rw[e1];exact e2
 obtain⟨i1,i2,-⟩:=Et hwk;refine⟨a,hwk,i1,i2,?_,fun t ht=>?_⟩
 ·rw[w2.nl];exact Nat.le_trans (VS _ _ h2.nd h2.sub) hf.sl
 ·rw[w2.nl]at ht;have hrun:∀(z:List Nat) (j st:Nat),Wd z->m2.met[j]?=some st->ig a j z=decide (runN r.ps r.wh st z=fD r.ps):=fun z=>by
   induction z with
   | nil=>
    intro j st _ hj;obtain⟨s,c1,c2,-⟩:=w2.is j (bU hj).1;rw[hj]at c1;cases c1;rw[ig,runN,fM,c2];rfl
   | cons l z ih=>
    intro j st hz hj;obtain⟨s,c1,-,c3⟩:=w2.is j (bU hj).1;rw[hj]at c1;cases c1;rw[ig,runN];exact ih _ _ (fun y hy=>hz y (mem_cons_of_mem _ hy)) (c3 l (hz l mem_cons_self))
  exact⟨m2.met[t],hf.le _ (h2.sub _ (getElem_mem ht)),fun z hz=>hrun z t _ hz (bG ht)⟩
theorem vG{a:Auto}(ha:AE a){of:List Nat}{c:Nat}(hc:Rf a.nx.length of c):∀(k i:Nat) (acc:Auto),i+k=a.nx.length->∃b,jv of (of.drop i) (a.nx.drop i) (a.hit.drop i) acc=some b
 | 0,i,acc,hk=>by
  have hl:=hc.len;rw[drop_of_length_le (by omega),jv];exact⟨_,rfl⟩
 | k+1,i,acc,hk=>by
  have hi:i<a.nx.length:=by omega
  have hio:i<of.length:=by rw[hc.len];exact hi
  have hih:i<a.hit.length:=by rw[ha.hl];exact hi
  rw[kJ hio,kJ hi,kJ hih,jv];split
  ·exact vG ha hc k (i+1) acc (by omega)
  ·have hr:∀l,l<4->kz a.nx[i] l<of.length:=fun l hl=>by
    have:=ha.en i l hi hl;rw[hc.len];unfold uQ at this;rw[fM,bG hi]at this;exact this
   have g:=fun x (hx:x<of.length)=>VJ hx
   rw[show (a.nx[i]).a=kz a.nx[i] 0 from rfl,show (a.nx[i]).b=kz a.nx[i] 1 from rfl,show (a.nx[i]).c=kz a.nx[i] 2 from rfl,show (a.nx[i]).d=kz a.nx[i] 3 from rfl,g _ (hr 0 (by omega)),g _ (hr 1 (by omega)),g _ (hr 2 (by omega)),g _ (hr 3 (by omega))];exact vG ha hc k (i+1) _ (by omega)
theorem WY(hf:Few r S):∃b,jM r=some (some b)∧qV b=true∧AE b∧(∀z,Wd z->ig b 0 z=strikes r z)∧Runs r b:=by
 obtain⟨a,hw,ha,hp,h60,ZI⟩:=OI hf;obtain⟨c1,c2⟩:=JJ ha hp;have hnx:∀l i,l<4->i<a.nx.length->nxt a.nx l i=uQ a i l:=fun l i hl hi=>by
  unfold nxt gf uQ;rw[fM,getElem?_map,bG hi,fM,bG hi];rfl
 have hin:InN a.nx.length a.nx:=⟨rfl,fun l i hl hi=>by rw[hnx l i hl hi];exact ha.en i l hi hl⟩;obtain⟨of,m,e1,e2,e3,e4⟩:=qC hin h60 100 (iJ a).1 (iJ a).2 c1 (by omega);obtain⟨b,hb⟩:=vG ha e2 a.nx.length 0 ⟨[],[]⟩ (by omega);simp only[drop_zero]at hb;have hle:=e2.le;have hl:jM r=some (some b):=by
  unfold jM;rw[hw];simp only[];rw[show iJ a=((iJ a).1,(iJ a).2) from rfl,e1];simp only[];rw[aU (by omega),hb];rfl
 have NF:=zO ha e2 a.nx.length 0 ⟨[],[]⟩ b (by omega) ⟨rfl,rfl,fun q hq=>by simp[cnt]at hq⟩ (by simpa using hb);obtain⟨k1,k2⟩:=VL ha e2 (fun l i j hl hi hj e=>by
  have:=e4 l (by omega) hl i j hi hj e
  rwa [hnx l i hl hi,hnx l j hl hj]at this) (fun i j hi hj e=>c2 i j hi hj (e3 i j hi hj e)) NF
 have hbl:b.nx.length=m:=by rw[NF.nl,<-e2.num]
 have hbp:0<b.nx.length:=by rw[hbl];have:=e2.lt 0 hp;omega
 obtain⟨l1,l2⟩:=JK hw ha hp h60 hl;refine⟨b,hl,?_,k1,fun z hz=>?_,fun t ht=>?_⟩
 ·unfold qV;simp only[Bool.and_eq_true,decide_eq_true_eq,all_eq_true];refine⟨⟨by omega,hbp⟩,fun q hq=>?_⟩;obtain⟨t,ht,rfl⟩:=mem_iff_getElem.1 hq;have:=fun l (hl:l<4)=>k1.en t l ht hl
  unfold uQ at this;rw[fM,bG ht]at this;have t0:(b.nx[t]).a<b.nx.length:=this 0 (by omega);have t1:(b.nx[t]).b<b.nx.length:=this 1 (by omega);have t2:(b.nx[t]).c<b.nx.length:=this 2 (by omega);have t3:(b.nx[t]).d<b.nx.length:=this 3 (by omega);refine⟨⟨⟨?_,?_⟩,?_⟩,?_⟩ <;> omega
 ·rw[l2 z hz];exact(Et hw).2.2 z hz
 ·rw[NF.nl]at ht;obtain⟨j,j1,j2,-,-⟩:=NF.rep t ht;obtain⟨st,s1,s2⟩:=ZI j j1;refine⟨st,s1,fun z hz=>?_⟩;rw[<-j2,k2 z j hz j1];exact s2 z hz
structure GR(r:Rule):Prop where
 few:∃S,Few r S
 fr:r.fr.length<=4
 tt:r.tt.length<=4
def VT(rs:List Rule)(a:Auto):Prop:=∀t,t<a.nx.length->∃r∈rs,∃st,st<=2^r.ps.length∧∀z,Wd z->ig a t z=decide (runN r.ps r.wh st z=fD r.ps)
theorem tH{all:List Rule}:∀(rs:List Rule) (a:Auto) (ss:List Nat),(∀r∈rs,GR r)->(∀r∈rs,r∈all)->AE a->(∀s∈ss,s<a.nx.length)->VT all a->∃a' ss',jO rs a ss=some (some (a',ss'))∧AE a'∧(∀s∈ss',s<a'.nx.length)∧VT all a'∧a.nx.length+rs.length<=a'.nx.length∧ss'.length=ss.length+rs.length
 | [],a,ss,_,_,ha,hs,hr=>⟨a,ss,rfl,ha,hs,hr,by simp,by simp⟩
 | r::rs,a,ss,hg,hall,ha,hs,hr=>by
  obtain⟨S,hS⟩:=(hg r mem_cons_self).few;obtain⟨b,b1,b2,b3,-,b5⟩:=WY hS;have hbp:0<b.nx.length:=by
   unfold qV at b2;simp only[Bool.and_eq_true,decide_eq_true_eq]at b2;exact b2.1.2
  rw[jO,b1];simp only[];rw[aP b2];obtain⟨a',ss',k1,k2,k3,k4,k5,k6⟩:=tH rs (pX a b) (ss++[a.nx.length]) (fun x hx=>hg x (mem_cons_of_mem _ hx)) (fun x hx=>hall x (mem_cons_of_mem _ hx)) (ZE ha b3) (fun s hs'=>by
   rw[wQ]
   rcases mem_append.1 hs' with h | h
   ·have:=hs s h;omega
   ·rw[mem_singleton.1 h];omega) (fun t ht=>by
   rw[wQ]at ht
   rcases iK t a.nx.length with h | h
   ·obtain⟨q,q1,st,q2,q3⟩:=hr t h
    exact⟨q,q1,st,q2,fun z hz=>by rw[Eo ha z t hz h];exact q3 z hz⟩
   ·obtain⟨u,rfl⟩:∃u,t=a.nx.length+u:=⟨t-a.nx.length,by omega⟩
    obtain⟨st,q2,q3⟩:=b5 u (by omega)
    exact⟨r,hall r mem_cons_self,st,q2,fun z hz=>by rw[Ak ha b3 z u hz (by omega)];exact q3 z hz⟩)
  refine⟨a',ss',k1,k2,k3,k4,?_,?_⟩
  ·rw[wQ]at k5;rw[length_cons];omega
  ·rw[k6,length_append,length_cons,length_cons,length_nil];omega
theorem qg(h:List Bool)(l:Nat)(hl:l<4):∀(n:Nat) (nx:List R4),(∀r∈nx,kz r l<h.length)->∃h',bF h l nx n=some h'∧h'.length=n
 | 0,nx,_=>⟨[],by rw[bF],rfl⟩
 | n+1,[],hn=>by
  obtain⟨h',e,hl'⟩:=qg h l hl n [] hn;rw[bF,e];exact⟨false::h',rfl,by simp[hl']⟩
 | n+1,r::nx,hn=>by
  obtain⟨h',e,hl'⟩:=qg h l hl n nx fun r' hr'=>hn r' (mem_cons_of_mem _ hr')
  rw[bF,uj hl];simp only[];rw[bG (hn r mem_cons_self)];simp only[];rw[e];exact⟨_,rfl,by simp[hl']⟩
def K60(k:dI):Prop:=∀h∈k.hits,h.length=60
theorem qG(hA:xU a)(hl:l<4)(h:KI a i k)(h6:K60 k)(hi:i<k.hits.length):∃n k',qA a i l k=some (n,k')∧K60 k'∧KI a i k'∧k.hits.length<=k'.hits.length∧k'.hits.length<=k.hits.length+1:=by
 have hn:∀r∈a.nx,kz r l<(k.hits[i]).length:=fun r hr=>by
  obtain⟨t,ht,rfl⟩:=mem_iff_getElem.1 hr;rw[h6 _ (getElem_mem hi)];have:=hA.en t l ht hl;unfold uQ at this;rw[fM,bG ht]at this;have h2:=hA.le;exact Nat.lt_of_lt_of_le this h2
 obtain⟨h',e,hl'⟩:=qg k.hits[i] l hl 60 a.nx hn;have hex:∃n k',qA a i l k=some (n,k')∧K60 k'∧k.hits.length<=k'.hits.length∧k'.hits.length<=k.hits.length+1:=by
  unfold qA;rw[bG hi];simp only[];rw[e];simp only[];have h60:K60 ⟨k.ahead,k.words,k.hits++[h']⟩:=fun x hx=>by
   rcases mem_append.1 hx with hx | hx
   ·exact h6 x hx
   ·rw[mem_singleton.1 hx];exact hl'
  by_cases hc:M2.find k.hits h' 0=k.hits.length
  ·rw[aP hc,aP (hc.trans h.wl.symm),bG (by rw[h.wl];exact hi)];exact⟨_,_,rfl,h60,by simp,by simp⟩
  ·rw[aU hc,aU (by rw[h.wl];exact hc)];exact⟨_,_,rfl,h6,by simp,by simp⟩
 obtain⟨n,k',e1,e2,e3,e4⟩:=hex;exact⟨n,k',e1,e2,(kD hl h e1).1,e3,e4⟩
theorem aDg{k':dI}(h:KI a i k)(e:k'.words=k.words)(e2:k'.hits=k.hits)(r:R4)(ea:k'.ahead=k.ahead++[r])(hr:∀l,l<4->∃h h',k.hits[i]?=some h∧bF h l a.nx 60=some h'∧k.hits[kz r l]?=some h'):KI a (i+1) k':=by
 refine⟨by rw[e,e2];exact h.wl,by rw[e2];exact h.nd,by rw[e];exact h.w0,by rw[e2];exact h.h0,by rw[e,e2];exact h.wd,by rw[ea,length_append,h.al];rfl,fun j q hj=>?_⟩;rw[ea]at hj;rw[e2];rcases iK j k.ahead.length with hlt | hge
 ·rw[jG hlt]at hj;exact h.ar j q hj
 ·rw[mW hge]at hj;have hj0:j-k.ahead.length=0:=by
   have:=(bU hj).1;simp at this;omega
  rw[hj0]at hj;simp at hj;subst hj;have:j=i:=by have:=h.al;omega
  subst this;exact hr
theorem xW{a:Auto}(hA:xU a):∀(f i:Nat) (k:dI),26<=f+i->KI a i k->K60 k->i<=k.hits.length->k.hits.length<=24->∃res,jH a f i k=some res∧∀k',res=some k'->k'.hits.length<=24
 | 0,i,k,hf,_,_,hi,WR=>by omega
 | f+1,i,k,hf,h,h6,hi,WR=>by
  rw[jH];by_cases hc:k.hits.length<=i
  ·rw[aP hc];exact⟨_,rfl,fun k' e=>by cases e;exact WR⟩
  ·rw[aU hc];obtain⟨n0,k0,e0,s0,g0,l0,-⟩:=qG hA (l:=0) (by omega) h h6 (by omega);obtain⟨n1,k1,e1,s1,g1,l1,-⟩:=qG hA (l:=1) (by omega) g0 s0 (by omega);obtain⟨n2,k2,e2,s2,g2,l2,-⟩:=qG hA (l:=2) (by omega) g1 s1 (by omega);obtain⟨n3,k3,e3,s3,g3,l3,-⟩:=qG hA (l:=3) (by omega) g2 s2 (by omega);rw[e0];simp only[];rw[e1];simp only[];rw[e2];simp only[];rw[e3];simp only[];by_cases h4:24<k3.hits.length
   ·rw[aP h4];exact⟨_,rfl,fun k' e=>by cases e⟩
   ·rw[aU h4];refine xW hA f (i+1) _ (by omega) ?_ s3 (by show i+1<=k3.hits.length;omega) (by show k3.hits.length<=24;omega);refine aDg g3 rfl rfl ⟨n0,n1,n2,n3⟩ rfl fun l hl=>?_
    obtain⟨-,-,⟨x1,t1⟩,a1,b1,c1,d1,f1⟩:=kD (by omega) h e0;obtain⟨-,-,⟨x2,t2⟩,a2,b2,c2,d2,f2⟩:=kD (by omega) g0 e1;obtain⟨-,-,⟨x3,t3⟩,a3,b3,c3,d3,f3⟩:=kD (by omega) g1 e2;obtain⟨-,-,-,a4,b4,c4,d4,f4⟩:=kD (by omega) g2 e3;have up':∀{A B M:List (List Bool)} {j:Nat} {x:List Bool},B=A++M->A[j]?=some x->B[j]?=some x:=fun hB hx=>by
     rw[hB,jG (bU hx).1];exact hx
    obtain⟨x4,t4⟩:=(kD (by omega) g2 e3).2.2.1
    match l,hl with
    | 0,_=>exact⟨a1,b1,up' t4 (up' t3 (up' t2 c1)),d1,up' t4 (up' t3 (up' t2 f1))⟩
    | 1,_=>exact⟨a2,b2,up' t4 (up' t3 c2),d2,up' t4 (up' t3 f2)⟩
    | 2,_=>exact⟨a3,b3,up' t4 c3,d3,up' t4 f3⟩
    | 3,_=>exact⟨a4,b4,c4,d4,f4⟩
theorem wU(l:List Bool):(jR l).length=60:=by
 unfold jR;rw[length_take,length_append,length_replicate];omega
theorem OM(hA:xU a):∃res,oN a=some res∧∀k,res=some k->k.hits.length<=24:=by
 refine xW hA 30 0 _ (by omega) ⟨rfl,by simp,rfl,rfl,fun n w hw=>?_,rfl,fun j r hj=>by simp at hj⟩ (fun h hh=>by rw[mem_singleton.1 hh];exact wU _) (Nat.zero_le _) (by show 1<=24;omega);rcases n with _ | n
 ·simp at hw;subst hw;exact⟨(fun c hc=>by cases hc),dH _,_,rfl,HH.nil⟩
 ·simp at hw
theorem zS(k:dI)(kd:Nat):∀(rs:List Rule) (ss:List Nat) (d:Nat × By),ss.length=rs.length->(∀r∈rs,r.fr.length<=4∧r.tt.length<=4)->d.1<=4∧d.2.length<=4->∃r,dU k kd rs ss d=some r∧r.1<=4∧r.2.length<=4
 | [],ss,d,_,_,hd=>⟨d,by rw[dU],hd⟩
 | r::rs,[],d,h,_,_=>by simp at h
 | r::rs,s::ss,d,h,hr,hd=>by
  rw[dU];refine zS k kd rs ss _ (by simpa using h) (fun q hq=>hr q (mem_cons_of_mem _ hq)) ?_;split
  ·exact hr r mem_cons_self
  ·exact hd
theorem CJ(k:dI){rs:List Rule}{ss:List Nat}(h:ss.length=rs.length)(hr:∀r∈rs,r.fr.length<=4∧r.tt.length<=4):∀n i,∃ds,fQ rs ss k n i=some ds∧ds.length=n∧∀d∈ds,d.1<=4∧d.2.length<=4
 | 0,i=>⟨[],rfl,rfl,fun d hd=>by cases hd⟩
 | n+1,i=>by
  obtain⟨d,e,hd⟩:=zS k i rs ss (0,[]) h hr ⟨by decide,by decide⟩;obtain⟨ds,e2,hl,hds⟩:=CJ k h hr n (i+1);rw[fQ,e];simp only[];rw[e2];refine⟨d::ds,rfl,by simp[hl],fun x hx=>?_⟩;rcases mem_cons.1 hx with rfl | hx
  ·exact hd
  ·exact hds x hx
theorem Rk(hp:rs≠[])(hg:∀r∈rs,GR r):∃res,view rs=some res:=by
 obtain⟨a,ss,e,ha,hs,-,hlen,hsl⟩:=tH (all:=rs) rs ⟨[],[]⟩ [] hg (fun _ h=>h) ⟨rfl,fun t l ht=>by simp at ht⟩ (fun s h=>by cases h) (fun t ht=>by simp at ht);unfold view;rw[e];simp only[];by_cases h60:60<a.nx.length
 ·rw[aP h60];exact⟨_,rfl⟩
 ·rw[aU h60];have hne:a.nx.isEmpty=false:=by
   cases hx:a.nx with
   | nil=>rw[hx]at hlen;simp at hlen;exact absurd hlen hp
   | cons _ _=>rfl
  rw[hne];simp only[Bool.false_eq_true,if_false];have hall:(ss.all fun s=>decide (s<60))=true:=all_eq_true.2 fun s h=>decide_eq_true (by have:=hs s h;omega)
  rw[hall];simp only[Bool.not_true,Bool.false_eq_true,if_false];have hA:xU a:=⟨ha.hl,by omega,ha.en⟩;obtain⟨res,ek,hk⟩:=OM hA;rw[ek];rcases res with _ | k
  ·exact⟨_,rfl⟩
  ·simp only[];obtain⟨ds,ed,dl,dd⟩:=CJ k (rs:=rs) (ss:=ss) (by rw[hsl];simp) (fun r hr=>⟨(hg r hr).fr,(hg r hr).tt⟩) k.ahead.length 0;rw[ed];simp only[];have hki:=OA ek;have WR:=hk k rfl;have:IW ⟨k,ds⟩=true:=by
    unfold IW;simp only[Bool.and_eq_true,decide_eq_true_eq,all_eq_true];refine⟨⟨⟨⟨dl,by rw[hki.al];exact WR⟩,hki.al.symm⟩,fun r hr=>?_⟩,dd⟩;obtain⟨j,hj,rfl⟩:=mem_iff_getElem.1 hr;have hx:∀l,l<4->kz k.ahead[j] l<k.ahead.length:=fun l hl=>by
     obtain⟨h,h',-,-,x3⟩:=hki.ar j k.ahead[j] (bG hj) l hl;rw[hki.al];exact(bU x3).1
    exact⟨⟨⟨hx 0 (by omega),hx 1 (by omega)⟩,hx 2 (by omega)⟩,hx 3 (by omega)⟩
   rw[aP this];exact⟨_,rfl⟩
inductive C where
 | no
 | word (u:By)
 | any (v:By)
 | or (u v:By)
 | loop (x y:UInt8)
 | ac
 | nb (v:By)
def C.text:C->By
 | .no=>[]
 | .word u=>u
 | .any v=>46::v
 | .or u v=>u++124::v
 | .loop x y=>[x,42,y]
 | .ac=>[91,97,99,93]
 | .nb v=>[91,94,98,93,40]++(v++[41])
def C.Ok:C->Prop
 | .no=>True
 | .word u=>Wb u∧1<=u.length∧u.length<=3
 | .any v=>Wb v∧1<=v.length∧v.length<=2
 | .or u v=>(Wb u∧1<=u.length∧u.length<=3)∧Wb v∧1<=v.length∧v.length<=2
 | .loop x y=>lG x=true∧lG y=true∧x≠y
 | .ac=>True
 | .nb v=>Wb v∧1<=v.length∧v.length<=2
def C.net:C->List Place->Option (Piece × List Place)
 | .no,ps=>some (⟨true,0,0⟩,ps)
 | .word u,ps=>bW u ⟨true,0,0⟩ ps
 | .any v,ps=>match iZ ps (dS [])with
  | none=>none
  | some (q,ps1)=>bW v (bC ps1 ⟨true,0,0⟩ q).1 (bC ps1 ⟨true,0,0⟩ q).2
 | .or u v,ps=>match bW u ⟨true,0,0⟩ ps with
  | none=>none
  | some (w,ps1)=>match bW v ⟨true,0,0⟩ ps1 with
   | none=>none
   | some (r,ps2)=>some (mJ w r,ps2)
 | .loop x y,ps=>match iZ ps (allOf [x] aX)with
  | none=>none
  | some (q,ps1)=>bW [y] (bC (sJ ps1 q).2 ⟨true,0,0⟩ (sJ ps1 q).1).1 (bC (sJ ps1 q).2 ⟨true,0,0⟩ (sJ ps1 q).1).2
 | .ac,ps=>match iZ ps (allOf [97,99] aX)with
  | none=>none
  | some (q,ps1)=>some (bC ps1 ⟨true,0,0⟩ q)
 | .nb v,ps=>match iZ ps (dS [98])with
  | none=>none
  | some (q,ps1)=>match bW v ⟨true,0,0⟩ (bC ps1 ⟨true,0,0⟩ q).2 with
   | none=>none
   | some (x,ZJ)=>some (bC ZJ (bC ps1 ⟨true,0,0⟩ q).1 x)
structure At(s:By)(K:Nat)(c:By):Prop where
 get:∀i,s[K+i]?=c[i]?
 len:s.length=K+c.length
theorem At.sees(h:At s K c)(ch:UInt8)(i:Nat)(ps:List Place):sees s ch ⟨K+i,false,ps⟩=decide (c[i]?=some ch):=by
 unfold aI.sees;rw[h.get i];rfl
theorem At.aCL(h:At s K c)(ch:UInt8)(ps:List Place):aI.sees s ch ⟨K,false,ps⟩=decide (c[0]?=some ch):=h.sees ch 0 ps
theorem tJ{c:UInt8}(h:lG c=true):c≠124∧c≠41∧c≠40∧c≠91∧c≠46∧c≠42∧c≠62∧c≠47∧c≠10:=by
 unfold lG at h;have h:=of_decide_eq_true h;refine⟨?_,?_,?_,?_,?_,?_,?_,?_,?_⟩ <;> (intro e;subst e;exact absurd h (by decide))
def VU(c:By)(i:Nat):Prop:=c[i]?=none∨c[i]?=some 124∨c[i]?=some 41
theorem VU.star(h:VU c i):c[i]?≠some 42:=by
 rcases h with h | h | h <;> rw[h] <;> decide
theorem yH(h:At s K c)(he:VU c i)(hi:i<=c.length)(ps:List Place):nN s ⟨K+i,false,ps⟩=true:=by
 unfold nN;rw[h.sees,h.sees];simp only[Bool.or_eq_true,decide_eq_true_eq,Bool.false_eq_true,false_or];rcases he with he | he | he
 ·have:=List.getElem?_eq_none_iff.1 he;left;left;rw[h.len];omega
 ·exact Or.inl (Or.inr he)
 ·exact Or.inr he
theorem oJ(h:At s K c){x:UInt8}(hx:c[i]?=some x)(h1:x≠124)(h2:x≠41)(ps:List Place):nN s ⟨K+i,false,ps⟩=false:=by
 have hl:=(bU hx).1;unfold nN;rw[h.sees,h.sees,hx,h.len];simp[h1,h2];omega
theorem rE(h:At s K c)(hx:c[i]?≠some 42)(f:Nat)(x:Piece)(ps:List Place):lW s (f+1) x ⟨K+i,false,ps⟩=some (x,⟨K+i,false,ps⟩):=by
 rw[lW,h.sees,lT hx,aU (by simp)]
theorem CP(h:At s K c){x:UInt8}(hx:c[i]?=some x)(hl:lG x=true)(f d:Nat)(w:Piece)(ps:List Place)(hp:ps.length<32):fB s (f+1) 3 d w ⟨K+i,false,ps⟩=some (⟨false,bit ps.length,bit ps.length⟩,⟨K+(i+1),false,ps++[⟨allOf [x] aX,0⟩]⟩):=by
 obtain⟨n1,n2,n3,n4,n5,-⟩:=tJ hl;rw[fB,h.sees,h.sees,h.sees,hx,aU (by simp[n3]),aU (by simp[n4]),aU (by simp[n5])]
 ·unfold dN;simp only[h.get,hx,hl,if_true];unfold iZ;rw[aP hp];rfl
 all_goals exact fun e=>by omega
theorem o9{s:By}{K:Nat}{c:By}(h:At s K c)(d:Nat):∀(cs:By) (f i:Nat) (w:Piece) (ps:List Place),Wb cs->(∀j,j<cs.length->c[i+j]?=cs[j]?)->VU c (i+cs.length)->i+cs.length<=c.length->cs.length+2<=f->ps.length+cs.length<=32 ->∃x ps',bW cs w ps=some (x,ps')∧ps'.length=ps.length+cs.length∧fB s f 2 d w ⟨K+i,false,ps⟩=some (x,⟨K+(i+cs.length),false,ps'⟩)
 | [],f,i,w,ps,_,_,he,hi,hf,_=>by
  obtain⟨g,rfl⟩:∃g,f=g+1:=⟨f-1,by simp at hf;omega⟩;refine⟨w,ps,rfl,rfl,?_⟩;rw[fB,yH h (by simpa using he) (by simpa using hi),aP rfl];rfl
 | x::cs,f,i,w,ps,hl,hc,he,hi,hf,hp=>by
  rw[length_cons]at hf hp hi he;obtain⟨g,rfl⟩:∃g,f=g+1:=⟨f-1,by omega⟩;obtain⟨g',rfl⟩:∃g',g=g'+1:=⟨g-1,by omega⟩;have hx:c[i]?=some x:=by have:=hc 0 (by simp);simpa using this
  have hxl:=hl x mem_cons_self;obtain⟨n1,n2,-⟩:=tJ hxl;have hst:c[i+1]?≠some 42:=by
   rcases cs with _ | ⟨y,cs⟩
   ·exact he.star
   ·have:=hc 1 (by simp);rw[this];simp;exact(tJ (hl y (by simp))).2.2.2.2.2.1
  rw[bW,fB,oJ h hx n1 n2,aU (by simp),CP h hx hxl g' d _ ps (by omega)];unfold iZ;rw[aP (by omega)];simp only[];rw[rE h hst];simp only[];have hj:(bC (ps++[⟨allOf [x] aX,0⟩]) w ⟨false,bit ps.length,bit ps.length⟩).2.length=ps.length+1:=by
   unfold bC;simp only;have:∀(ps:List Place) (a b i:Nat),(aI.iP ps a b i).length=ps.length:=fun ps a b=>by
    induction ps with
    | nil=>intro i;rfl
    | cons p ps ih=>intro i;rw[aI.iP];simp[ih]
   rw[this];simp
  obtain⟨y,ps',e1,e2,e3⟩:=o9 h d cs (g'+1) (i+1) (bC (ps++[⟨allOf [x] aX,0⟩]) w ⟨false,bit ps.length,bit ps.length⟩).1 (bC (ps++[⟨allOf [x] aX,0⟩]) w ⟨false,bit ps.length,bit ps.length⟩).2 (fun z hz=>hl z (mem_cons_of_mem _ hz)) (fun j hj=>by
   have:=hc (j+1) (by simp;omega)
   rw[show i+1+j=i+(j+1) by omega,this]
   simp) (by rwa [show i+1+cs.length=i+(cs.length+1) by omega]) (by omega) (by omega) (by rw[hj];omega)
  refine⟨y,ps',e1,?_,?_⟩
  ·rw[e2,hj,length_cons];omega
  ·rw[show i+(x::cs).length=i+1+cs.length by rw[length_cons];omega];exact e3
theorem At.drop(h:At s K c)(i:Nat):s.drop (K+i)=c.drop i:=by
 apply ext_getElem?;intro j;rw[getElem?_drop,getElem?_drop,Nat.add_assoc,h.get]
theorem vH{x x2:Piece}(he:nN s p=false)(h1:fB s f 3 d ⟨false,0,0⟩ p=some (x,p1))(h2:lW s f x p1=some (x2,p2)):fB s (f+1) 2 d w p=fB s f 2 d (bC p2.ps w x2).1 { p2 with ps:=(bC p2.ps w x2).2 }:=by
 rw[fB,he,aU (by simp),h1];simp only[];rw[h2]
theorem og:∀(ps:List Place) (a b i:Nat),(aI.iP ps a b i).length=ps.length
 | [],_,_,_=>rfl
 | p::ps,a,b,i=>by rw[aI.iP,length_cons,og,length_cons]
theorem vI(ps:List Place)(x y:Piece):(bC ps x y).2.length=ps.length:=og _ _ _ _
theorem ZK(ps:List Place)(x:Piece):(sJ ps x).2.length=ps.length:=og _ _ _ _
theorem vJ(h:ps.length<32)(t:List Bool):iZ ps t=some (⟨false,bit ps.length,bit ps.length⟩,ps++[⟨t,0⟩]):=by
 unfold iZ;rw[aP h]
theorem ZL(h:At s K c)(hx:c[i]?=some 46)(f d:Nat)(w:Piece)(ps:List Place)(hp:ps.length<32):fB s (f+1) 3 d w ⟨K+i,false,ps⟩=some (⟨false,bit ps.length,bit ps.length⟩,⟨K+(i+1),false,ps++[⟨dS [],0⟩]⟩):=by
 rw[fB,h.sees,h.sees,h.sees,hx,aU (by decide),aU (by decide),aP (by decide),vJ hp]
 ·rfl
 all_goals exact fun e=>by omega
theorem OO(h:At s K c)(hx:c[i]?=some 91)(f d:Nat)(w:Piece)(ps:List Place):fB s (f+1) 3 d w ⟨K+i,false,ps⟩=IV s ⟨K+i,false,ps⟩:=by
 rw[fB,h.sees,h.sees,hx,aU (by decide),aP (by decide)];all_goals exact fun e=>by omega
theorem oq(h:At s K c)(hx:c[i]?≠some 124)(f d:Nat)(w:Piece)(ps:List Place):fB s (f+1) 1 d w ⟨K+i,false,ps⟩=some (w,⟨K+i,false,ps⟩):=by
 rw[fB,h.sees,lT hx,aU (by simp)]
theorem ou{x y:Piece}(h1:fB s f 2 d ⟨true,0,0⟩ p=some (x,p1))(h2:fB s f 1 d x p1=some (y,p2)):fB s (f+1) 0 d w p=some (y,p2):=by
 rw[fB,h1];exact h2
theorem aDh(h:At s K [91,97,99,93])(ps:List Place)(hp:ps.length<32):IV s ⟨K,false,ps⟩=some (⟨false,bit ps.length,bit ps.length⟩,⟨K+4,false,ps++[⟨allOf [97,99] aX,0⟩]⟩):=by
 have e1:eY s 91 ⟨K,false,ps⟩=⟨K+1,false,ps⟩:=by unfold eY;rw[h.aCL];rfl
 have e2:aI.sees s 94 ⟨K+1,false,ps⟩=false:=by rw[h.sees];rfl
 have e3:iW s 94 ⟨K+1,false,ps⟩=⟨K+1,false,ps⟩:=by unfold iW;rw[e2];rfl
 have e4:ku lG s ⟨K+1,false,ps⟩=([97,99],⟨K+3,false,ps⟩):=by
  unfold ku;simp only[];rw[h.drop 1];rfl
 have e5:eY s 93 ⟨K+3,false,ps⟩=⟨K+4,false,ps⟩:=by unfold eY;rw[h.sees];rfl
 unfold IV;simp only[e1,e2,e3,e4,e5];rw[show ([97,99]:List UInt8).isEmpty=false from rfl,show rising [97,99]=true from by decide];simp only[Bool.not_true,Bool.or_false,Bool.false_eq_true,if_false];rw[vJ hp]
theorem aDi{r:By}(h:At s K ([91,94,98,93]++r))(ps:List Place)(hp:ps.length<32):IV s ⟨K,false,ps⟩=some (⟨false,bit ps.length,bit ps.length⟩,⟨K+4,false,ps++[⟨dS [98],0⟩]⟩):=by
 have e1:eY s 91 ⟨K,false,ps⟩=⟨K+1,false,ps⟩:=by unfold eY;rw[h.aCL];rfl
 have e2:aI.sees s 94 ⟨K+1,false,ps⟩=true:=by rw[h.sees];rfl
 have e3:iW s 94 ⟨K+1,false,ps⟩=⟨K+2,false,ps⟩:=by unfold iW;rw[e2];rfl
 have e4:ku lG s ⟨K+2,false,ps⟩=([98],⟨K+3,false,ps⟩):=by
  unfold ku;simp only[];rw[h.drop 2];rfl
 have e5:eY s 93 ⟨K+3,false,ps⟩=⟨K+4,false,ps⟩:=by unfold eY;rw[h.sees];rfl
 unfold IV;simp only[e1,e2,e3,e4,e5];rw[show ([98]:List UInt8).isEmpty=false from rfl,show rising [98]=true from by decide];simp only[Bool.not_true,Bool.or_false,Bool.false_eq_true,if_false,if_true];rw[vJ hp]
theorem WZ{c:C}(hc:c.Ok)(hne:c.text≠[])(h:At s K c.text)(hp:ps.length<=4):∃x ps',c.net ps=some (x,ps')∧DF s 100 0 ⟨K,false,ps⟩=some (x,⟨K+c.text.length,false,ps'⟩):=by
 have aF5:DF s 100 0 ⟨K,false,ps⟩=fB s (99+1) 0 0 ⟨false,0,0⟩ ⟨K,false,ps⟩:=rfl;rw[aF5]
 match c,hc with
 | .no,_=>exact absurd rfl hne
 | .word u,⟨h1,h2,h3⟩=>
  simp only[C.text]at h ⊢;obtain⟨x,ps',e1,-,e3⟩:=o9 h 0 u 99 0 ⟨true,0,0⟩ ps h1 (fun j _=>by rw[Nat.zero_add]) (Or.inl (by simp)) (by omega) (by omega) (by omega);rw[Nat.zero_add,Nat.add_zero]at e3;exact⟨x,ps',e1,ou e3 (oq h (by simp) 98 0 x ps')⟩
 | .any v,⟨h1,h2,h3⟩=>
  simp only[C.text]at h ⊢;have hst:(46::v)[0+1]?≠some 42:=by
   rcases v with _ | ⟨y,v⟩
   ·simp at h2
   ·simp;exact(tJ (h1 y (by simp))).2.2.2.2.2.1
  have r1:=vH (w:=⟨true,0,0⟩) (oJ h (i:=0) (x:=46) rfl (by decide) (by decide) ps) (ZL h (i:=0) rfl 97 0 ⟨false,0,0⟩ ps (by omega)) (rE h hst 97 _ _);simp only[]at r1;obtain⟨x,ps',e1,-,e3⟩:=o9 h 0 v 98 1 (bC (ps++[⟨dS [],0⟩]) ⟨true,0,0⟩ ⟨false,bit ps.length,bit ps.length⟩).1 (bC (ps++[⟨dS [],0⟩]) ⟨true,0,0⟩ ⟨false,bit ps.length,bit ps.length⟩).2 h1 (fun j _=>by rw[Nat.add_comm 1 j];simp) (Or.inl (by rw[Nat.add_comm 1];simp)) (by simp;omega) (by omega) (by rw[vI];simp;omega);rw[Nat.zero_add,e3,Nat.add_zero]at r1;refine⟨x,ps',?_,?_⟩
  ·rw[C.net,vJ (by omega)];exact e1
  ·have:=ou (w:=⟨false,0,0⟩) r1 (oq h (by rw[Nat.add_comm 1];simp) 98 0 x ps');rw[length_cons,Nat.add_comm v.length];exact this
 | .or u v,⟨⟨a1,a2,a3⟩,h1,h2,h3⟩=>
  simp only[C.text]at h ⊢;have hat:(u++124::v)[u.length]?=some 124:=by rw[mW (dH _),Nat.sub_self];rfl
  obtain⟨x,ps1,e1,e2,e3⟩:=o9 h 0 u 99 0 ⟨true,0,0⟩ ps a1 (fun j hj=>by rw[Nat.zero_add,jG hj]) (by rw[Nat.zero_add];exact Or.inr (Or.inl hat)) (by simp) (by omega) (by omega);rw[Nat.zero_add,Nat.add_zero]at e3;have hget:∀j,(u++124::v)[u.length+1+j]?=v[j]?:=fun j=>by
   rw[mW (by omega),show u.length+1+j-u.length=j+1 by omega];rfl
  obtain⟨y,ps2,f1,-,f3⟩:=o9 h 0 v 98 (u.length+1) ⟨true,0,0⟩ ps1 h1 (fun j _=>hget j) (Or.inl (by rw[hget];simp)) (by simp;omega) (by omega) (by omega);refine⟨aI.mJ x y,ps2,?_,?_⟩
  ·rw[C.net,e1];simp only[];rw[f1]
  ·refine ou e3 ?_;rw[fB,h.sees,hat,aP (by decide),show K+u.length+1=K+(u.length+1) by omega,f3];simp only[];rw[oq h (by rw[hget];simp) 97 0];rw[length_append,length_cons,show u.length+(v.length+1)=u.length+1+v.length by omega]
 | .loop x y,⟨hx,hy,_⟩=>
  simp only[C.text]at h ⊢;obtain⟨n1,n2,-⟩:=tJ hx;obtain⟨-,-,-,-,-,m6,-⟩:=tJ hy;have hst:lW s 98 ⟨false,bit ps.length,bit ps.length⟩ ⟨K+(0+1),false,ps++[⟨allOf [x] aX,0⟩]⟩=some ((sJ (ps++[⟨allOf [x] aX,0⟩]) ⟨false,bit ps.length,bit ps.length⟩).1,⟨K+2,false,(sJ (ps++[⟨allOf [x] aX,0⟩]) ⟨false,bit ps.length,bit ps.length⟩).2⟩):=by
   rw[lW,h.sees,aP (by simp)];exact rE h (i:=2) (by simp[m6]) 96 _ _
  have r1:=vH (w:=⟨true,0,0⟩) (oJ h (i:=0) (x:=x) rfl n1 n2 ps) (CP h (i:=0) rfl hx 97 0 ⟨false,0,0⟩ ps (by omega)) hst;simp only[]at r1;obtain⟨z,ps',e1,-,e3⟩:=o9 h 0 [y] 98 2 _ (bC (sJ (ps++[⟨allOf [x] aX,0⟩]) ⟨false,bit ps.length,bit ps.length⟩).2 ⟨true,0,0⟩ (sJ (ps++[⟨allOf [x] aX,0⟩]) ⟨false,bit ps.length,bit ps.length⟩).1).2 (fun c hc=>by rw[mem_singleton.1 hc];exact hy) (fun j hj=>by
   have:j=0:=by simpa using hj
   subst this;rfl) (Or.inl rfl) (by simp) (by simp) (by rw[vI,ZK];simp;omega)
  rw[Nat.add_zero]at r1;refine⟨z,ps',?_,?_⟩
  ·rw[C.net,vJ (by omega)];exact e1
  ·refine ou (r1.trans e3) ?_;exact oq h (i:=3) (by simp) 98 0 z ps'
 | .ac,_=>
  simp only[C.text]at h ⊢;have r1:=vH (w:=⟨true,0,0⟩) (oJ h (i:=0) (x:=91) rfl (by decide) (by decide) ps) ((OO h (i:=0) rfl 97 0 ⟨false,0,0⟩ ps).trans (aDh h ps (by omega))) (rE h (i:=4) (by simp) 97 _ _);simp only[]at r1;rw[Nat.add_zero,show fB s 98 2 0 (bC (ps++[⟨allOf [97,99] aX,0⟩]) ⟨true,0,0⟩ ⟨false,bit ps.length,bit ps.length⟩).1 ⟨K+4,false,(bC (ps++[⟨allOf [97,99] aX,0⟩]) ⟨true,0,0⟩ ⟨false,bit ps.length,bit ps.length⟩).2⟩=some ((bC (ps++[⟨allOf [97,99] aX,0⟩]) ⟨true,0,0⟩ ⟨false,bit ps.length,bit ps.length⟩).1,⟨K+4,false,(bC (ps++[⟨allOf [97,99] aX,0⟩]) ⟨true,0,0⟩ ⟨false,bit ps.length,bit ps.length⟩).2⟩) from by
   rw[fB,yH h (i:=4) (Or.inl rfl) (by simp),aP rfl]]at r1
  refine⟨_,_,?_,ou r1 (oq h (i:=4) (by simp) 98 0 _ _)⟩;rw[C.net,vJ (by omega)]
 | .nb v,⟨h1,h2,h3⟩=>
  simp only[C.text]at h ⊢;have h':At s K ([91,94,98,93]++(40::(v++[41]))):=h;have hlen:([91,94,98,93,40]++(v++[41]):By).length=5+v.length+1:=by simp;omega
  have hget:∀j,([91,94,98,93,40]++(v++[41]):By)[5+j]?=(v++[41])[j]?:=fun j=>by
   rw[mW (by simp)];simp
  have hat:([91,94,98,93,40]++(v++[41]):By)[5+v.length]?=some 41:=by
   rw[hget,mW (dH _),Nat.sub_self];rfl
  have hend:([91,94,98,93,40]++(v++[41]):By)[5+v.length+1]?=none:=getElem?_eq_none (by rw[hlen];omega);have r1:=vH (w:=⟨true,0,0⟩) (oJ h (i:=0) (x:=91) rfl (by decide) (by decide) ps) ((OO h (i:=0) rfl 97 0 ⟨false,0,0⟩ ps).trans (aDi h' ps (by omega))) (rE h (i:=4) (by simp) 97 _ _);simp only[]at r1;obtain⟨x,ZJ,e1,-,e3⟩:=o9 h 1 v 95 5 ⟨true,0,0⟩ (bC (ps++[⟨dS [98],0⟩]) ⟨true,0,0⟩ ⟨false,bit ps.length,bit ps.length⟩).2 h1 (fun j hj=>by rw[hget,jG hj]) (Or.inr (Or.inr hat)) (by rw[hlen];omega) (by omega) (by rw[vI];simp;omega);have hin:fB s 96 0 1 ⟨false,0,0⟩ ⟨K+5,false,(bC (ps++[⟨dS [98],0⟩]) ⟨true,0,0⟩ ⟨false,bit ps.length,bit ps.length⟩).2⟩=some (x,⟨K+(5+v.length),false,ZJ⟩):=ou e3 (oq h (by rw[hat];decide) 94 1 x ZJ);have hpart:fB s 97 3 0 ⟨false,0,0⟩ ⟨K+4,false,(bC (ps++[⟨dS [98],0⟩]) ⟨true,0,0⟩ ⟨false,bit ps.length,bit ps.length⟩).2⟩=some (x,⟨K+(5+v.length+1),false,ZJ⟩):=by
   rw[fB,h.sees,aP (by simp),aU (by omega)]
   ·have:eY s 40 ⟨K+4,false,(bC (ps++[⟨dS [98],0⟩]) ⟨true,0,0⟩ ⟨false,bit ps.length,bit ps.length⟩).2⟩=⟨K+5,false,(bC (ps++[⟨dS [98],0⟩]) ⟨true,0,0⟩ ⟨false,bit ps.length,bit ps.length⟩).2⟩:=by
     unfold eY;rw[h.sees,decide_eq_true (by simp),aP rfl]
    rw[this,hin];simp only[];unfold eY;rw[h.sees,hat,decide_eq_true rfl,aP rfl];rfl
   all_goals exact fun e=>by omega
  have r2:=vH (w:=(bC (ps++[⟨dS [98],0⟩]) ⟨true,0,0⟩ ⟨false,bit ps.length,bit ps.length⟩).1) (oJ h (i:=4) (x:=40) rfl (by decide) (by decide) _) hpart (rE h (by rw[hend];simp) 96 _ _);simp only[]at r2;rw[Nat.add_zero,r2]at r1;have r3:fB s 97 2 0 (bC ZJ (bC (ps++[⟨dS [98],0⟩]) ⟨true,0,0⟩ ⟨false,bit ps.length,bit ps.length⟩).1 x).1 ⟨K+(5+v.length+1),false,(bC ZJ (bC (ps++[⟨dS [98],0⟩]) ⟨true,0,0⟩ ⟨false,bit ps.length,bit ps.length⟩).1 x).2⟩=some ((bC ZJ (bC (ps++[⟨dS [98],0⟩]) ⟨true,0,0⟩ ⟨false,bit ps.length,bit ps.length⟩).1 x).1,⟨K+(5+v.length+1),false,(bC ZJ (bC (ps++[⟨dS [98],0⟩]) ⟨true,0,0⟩ ⟨false,bit ps.length,bit ps.length⟩).1 x).2⟩):=by
   rw[fB,yH h (Or.inl hend) (by rw[hlen];omega),aP rfl]
  rw[r3]at r1;refine⟨(bC ZJ (bC (ps++[⟨dS [98],0⟩]) ⟨true,0,0⟩ ⟨false,bit ps.length,bit ps.length⟩).1 x).1,(bC ZJ (bC (ps++[⟨dS [98],0⟩]) ⟨true,0,0⟩ ⟨false,bit ps.length,bit ps.length⟩).1 x).2,?_,?_⟩
  ·rw[C.net,vJ (by omega)];simp only[];rw[e1]
  ·rw[hlen];exact ou r1 (oq h (by rw[hend];simp) 98 0 _ _)
end Th
end Go.Proofs.YtoebidlghdidoaaGreatDoor
