import Derived.Test.YtoebidlghdidoaaGreatDoorAA
namespace Go.Proofs.YtoebidlghdidoaaGreatDoor
open List
namespace Th
open aI (R4 common num lG)
open M2 (View aW lU xH sN nS qo qp YS Yh nT bP Apart set2 lY iw oO qU xq oP aA Ba outgrow iT ahead' Pair Stp fH aT pY)
open M3 (placeOf oZ Gr jy kR lead lH kS kT grow graph GG eF bY idx settle xu weigh fV judge iU y8 jr uZ gJ)
variable {k x y i m n l t c fr:Nat} {v:View} {one other:aA} {p q:Pair} {pairs ps:List Pair} {ns:List Nat} {g:Gr}
def AX(a:Apart)(k x y:Nat):Bool:=((a.getD k []).getD x []).getD y false
structure YT(n:Nat)(a:Apart):Prop where
 len:a.length=n
 four:∀r∈a,r.length=4
 Uo:∀r∈a,∀q∈r,q.length=4
section
variable {n:Nat} {a:Apart}
theorem YT.el(h:YT n a)(hk:k<n)(hx:x<4)(hy:y<4):∃(h1:k<a.length) (h2:x<(a[k]).length) (h3:y<((a[k])[x]).length),AX a k x y=((a[k])[x])[y]:=by
 have h1:k<a.length:=by rw[h.len];exact hk
 have h2:x<(a[k]).length:=by rw[h.four _ (getElem_mem h1)];exact hx
 have h3:y<((a[k])[x]).length:=by rw[h.Uo _ (getElem_mem h1) _ (getElem_mem h2)];exact hy
 refine⟨h1,h2,h3,?_⟩;unfold AX;simp[getD_eq_getElem?_getD,getElem?_eq_getElem h1,getElem?_eq_getElem h2,getElem?_eq_getElem h3]
theorem Jz(h:YT n a)(hk:k<n)(hx:x<4)(hy:y<4):xH a k x y=some (AX a k x y):=by
 obtain⟨h1,h2,h3,e⟩:=h.el hk hx hy;rw[e];unfold xH;rw[bG h1];show ((a[k])[x]?).bind _=_;rw[bG h2];exact bG h3
theorem aBp(h:YT n a)(k x y:Nat):YT n (sN a k x y):=by
 refine⟨by unfold sN;rw[length_modify];exact h.len,fun r hr=>?_,fun r hr q hq=>?_⟩
 ·unfold sN at hr;obtain⟨i,hi,he⟩:=mem_iff_getElem.1 hr;rw[getElem_modify]at he;rw[length_modify]at hi;split at he
  ·rw[<-he,length_modify];exact h.four _ (getElem_mem hi)
  ·rw[<-he];exact h.four _ (getElem_mem hi)
 ·unfold sN at hr;obtain⟨i,hi,he⟩:=mem_iff_getElem.1 hr;rw[getElem_modify]at he;rw[length_modify]at hi;split at he
  ·rw[<-he]at hq;obtain⟨j,hj,hf⟩:=mem_iff_getElem.1 hq;rw[getElem_modify]at hf;rw[length_modify]at hj;split at hf
   ·rw[<-hf,length_set];exact h.Uo _ (getElem_mem hi) _ (getElem_mem hj)
   ·rw[<-hf];exact h.Uo _ (getElem_mem hi) _ (getElem_mem hj)
  ·rw[<-he]at hq;exact h.Uo _ (getElem_mem hi) _ hq
theorem aBq(h:YT n a){j:Nat}(hi:i<n)(hj:j<4)(hm:m<4):AX (sN a k x y) i j m=if i=k∧j=x∧m=y then true else AX a i j m:=by
 obtain⟨g1,g2,g3,-⟩:=h.el hi hj hm;unfold AX sN;simp only[getD_eq_getElem?_getD,getElem?_modify];by_cases hki:k=i
 ·subst hki;rw[bG g1];simp only[if_true,Option.map_eq_map,Option.map_some,Option.getD_some,getElem?_modify,true_and];by_cases hxj:x=j
  ·subst hxj;rw[bG g2];simp only[if_true,Option.map_some,Option.getD_some,getElem?_set,true_and];by_cases hym:y=m
   ·subst hym;rw[aP rfl,aP rfl,aP g3];rfl
   ·rw[aU hym,aU (fun e=>hym e.symm)]
  ·rw[aU (fun e:j=x∧m=y=>hxj e.1.symm)];simp only[hxj,if_false];cases (a[k])[j]? <;> rfl
 ·rw[aU (fun e:i=k∧j=x∧m=y=>hki e.1.symm)];simp only[hki,if_false];cases a[i]? <;> rfl
end
def D9(a:Apart):Nat:=(a.map fun r=>(r.map fun q=>q.countP (·==false)).sum).sum
theorem count_set:∀(q:List Bool) (i:Nat) (h:i<q.length),q[i]=false->(q.set i true).countP (·==false)+1=q.countP (·==false)
 | a::q,0,_,e=>by
  have:a=false:=e;subst this;simp
 | a::q,i+1,h,e=>by
  have:=count_set q i (by simpa using h) (by simpa using e);simp only[set_cons_succ,countP_cons];omega
theorem aBr{a:Apart}(h:YT n a)(hk:k<n)(hx:x<4)(hy:y<4)(hf:AX a k x y=false):D9 (sN a k x y)+1=D9 a:=by
 obtain⟨h1,h2,h3,e⟩:=h.el hk hx hy;rw[e]at hf;have e1:(sN a k x y).map (fun r=>(r.map fun q=>q.countP (·==false)).sum)=(a.map fun r=>(r.map fun q=>q.countP (·==false)).sum).set k (((a[k]).modify x fun q=>q.set y true).map fun q=>q.countP (·==false)).sum:=by
  unfold sN;apply ext_getElem
  ·simp
  ·intro i g1 g2;rw[getElem_map,getElem_modify,getElem_set];by_cases hi:k=i
   ·subst hi;rw[aP rfl,aP rfl]
   ·rw[aU hi,aU hi,getElem_map]
 have e2:((a[k]).modify x fun q=>q.set y true).map (fun q=>q.countP (·==false))=((a[k]).map fun q=>q.countP (·==false)).set x (((a[k])[x]).set y true |>.countP (·==false)):=by
  apply ext_getElem
  ·simp
  ·intro i g1 g2;rw[getElem_map,getElem_modify,getElem_set];by_cases hi:x=i
   ·subst hi;rw[aP rfl,aP rfl]
   ·rw[aU hi,aU hi,getElem_map]
 have s1:=yj (a.map fun r=>(r.map fun q=>q.countP (·==false)).sum) k (((a[k]).modify x fun q=>q.set y true).map fun q=>q.countP (·==false)).sum (by rw[length_map];exact h1);rw[getElem_map]at s1;have s2:=yj ((a[k]).map fun q=>q.countP (·==false)) x (((a[k])[x]).set y true |>.countP (·==false)) (by rw[length_map];exact h2);rw[getElem_map,<-e2]at s2;have s3:=count_set ((a[k])[x]) y h3 hf;unfold D9;rw[e1];omega
structure Dz(v:View)(su:Nat->Nat->By)(a:Apart):Prop where
 sh:YT v.k.ahead.length a
 yes:∀k x y,k<v.k.ahead.length->x<4->y<4->AX a k x y=true->∃z,Wd z∧kind (aF v) z=k∧tail (aF v) su x z≠tail (aF v) su y z
theorem EC(hv:VF v){s:bP}(hsh:Sh v.k.ahead.length s)(hs:iM (aF v) (jT s))(hw:Has v)(hk:k<v.k.ahead.length)(hl:l<4)(ht:t<4):nS v s ((aF v).A k l) t l k=some (mv (aF v) (jT s) k t l,(aW v ((aF v).A k l) t l).2):=by
 have hA:(aF v).A k l<v.k.ahead.length:=(gK hv).Jy k l hk hl;unfold nS;simp only[];rw[D8 hsh hk (gX hv _ t l ht),D8 hsh hA ht];simp only[];have hp:=Ul (gK hv) hs hk hl ht (hw k hk);rw[aU (by
  have:=hp.length_le
  intro e
  exact absurd e (Nat.not_lt.2 this))]
 rfl
def Told(v:View)(su:Nat->Nat->By)(a:Apart)(k l x y:Nat):Prop:=(mv (aF v) su k x l≠mv (aF v) su k y l∨AX a k (aW v ((aF v).A k l) x l).2 (aW v ((aF v).A k l) y l).2=true)->AX a ((aF v).A k l) x y=true
section
variable {v:View} {s:bP}
theorem sO(hv:VF v)(hsh:Sh v.k.ahead.length s)(hs:iM (aF v) (jT s))(hw:Has v){k l x:Nat}(hk:k<v.k.ahead.length)(hl:l<4)(hx:x<4):∀(m y:Nat) (a:Apart) (g:Bool),y+m=4->Dz v (jT s) a ->∃g' a',qo v s ((aF v).A k l) l k x (mv (aF v) (jT s) k x l,(aW v ((aF v).A k l) x l).2) m y a g=some (g',a')∧Dz v (jT s) a'∧D9 a'<=D9 a∧(g'=false->g=false∧a'=a∧∀z,y<=z->z<4->Told v (jT s) a k l x z)∧(g'=true->g=true∨D9 a'<D9 a)
 | 0,y,a,g,_,h=>⟨g,a,rfl,h,dH _,fun e=>⟨e,rfl,fun t h1 h2=>by omega⟩,fun e=>Or.inl e⟩
 | m+1,y,a,g,hm,h=>by
  have hy:y<4:=by omega
  have hA:(aF v).A k l<v.k.ahead.length:=(gK hv).Jy k l hk hl;have hlx:=gX hv ((aF v).A k l) x l hx;have hly:=gX hv ((aF v).A k l) y l hy;rw[qo,EC hv hsh hs hw hk hl hy];simp only[];obtain⟨d,hd,hdi⟩:∃d:Bool,(if mv (aF v) (jT s) k x l=mv (aF v) (jT s) k y l then xH a k (aW v ((aF v).A k l) x l).2 (aW v ((aF v).A k l) y l).2 else some true)=some d∧(d=true↔(mv (aF v) (jT s) k x l≠mv (aF v) (jT s) k y l∨AX a k (aW v ((aF v).A k l) x l).2 (aW v ((aF v).A k l) y l).2=true)):=by
   by_cases hc:mv (aF v) (jT s) k x l=mv (aF v) (jT s) k y l
   ·rw[aP hc,Jz h.sh hk hlx hly];exact⟨_,rfl,fun e=>Or.inr e,fun e=>e.elim (fun n=>absurd hc n) id⟩
   ·rw[aU hc];exact⟨true,rfl,fun _=>Or.inl hc,fun _=>rfl⟩
  rw[hd];simp only[]
  cases d with
  | false=>
   simp only[Bool.false_eq_true,if_false];obtain⟨g',a',e,h1,h2,h3,h4⟩:=sO hv hsh hs hw hk hl hx m (y+1) a g (by omega) h;refine⟨g',a',e,h1,h2,fun e2=>?_,h4⟩;obtain⟨b1,b2,b3⟩:=h3 e2;refine⟨b1,b2,fun z z1 z2=>?_⟩;rcases iK y z with hlt | hge
   ·exact b3 z hlt z2
   ·obtain rfl:z=y:=by omega
    exact fun ht=>absurd (hdi.2 ht) (by simp)
  | true=>
   simp only[if_true];rw[Jz h.sh hA hx hy];simp only[Option.map_some]
   cases hap:AX a ((aF v).A k l) x y with
   | true=>
    simp only[Bool.not_true];obtain⟨g',a',e,h1,h2,h3,h4⟩:=sO hv hsh hs hw hk hl hx m (y+1) a g (by omega) h;refine⟨g',a',e,h1,h2,fun e2=>?_,h4⟩;obtain⟨b1,b2,b3⟩:=h3 e2;refine⟨b1,b2,fun z z1 z2=>?_⟩;rcases iK y z with hlt | hge
    ·exact b3 z hlt z2
    ·obtain rfl:z=y:=by omega
     exact fun _=>hap
   | false=>
    simp only[Bool.not_false];have hinv:Dz v (jT s) (sN a ((aF v).A k l) x y):=by
     refine⟨aBp h.sh _ _ _,fun k' x' y' hk' hx' hy' e=>?_⟩;rw[aBq h.sh hk' hx' hy']at e;split at e
     ·rename_i hc;obtain⟨rfl,rfl,rfl⟩:=hc;refine Bc (gK hv) hs hk hl hx hy (hw k hk) ?_;rcases hdi.1 rfl with hne | aF3
      ·exact Or.inl hne
      ·exact Or.inr (h.yes k _ _ hk hlx hly aF3)
     ·exact h.yes k' x' y' hk' hx' hy' e
    have hfl:=aBr h.sh hA hx hy hap;obtain⟨g',a',e,h1,h2,h3,h4⟩:=sO hv hsh hs hw hk hl hx m (y+1) _ true (by omega) hinv;refine⟨g',a',e,h1,by omega,fun e2=>absurd (h3 e2).1 (by simp),fun _=>Or.inr (by omega)⟩
theorem ED(hv:VF v)(hsh:Sh v.k.ahead.length s)(hs:iM (aF v) (jT s))(hw:Has v){k l:Nat}(hk:k<v.k.ahead.length)(hl:l<4):∀(m x:Nat) (a:Apart) (g:Bool),x+m=4->Dz v (jT s) a ->∃g' a',qp v s ((aF v).A k l) l k m x a g=some (g',a')∧Dz v (jT s) a'∧D9 a'<=D9 a∧(g'=false->g=false∧a'=a∧∀x',x<=x'->x'<4->∀y,y<4->Told v (jT s) a k l x' y)∧(g'=true->g=true∨D9 a'<D9 a)
 | 0,x,a,g,_,h=>⟨g,a,rfl,h,dH _,fun e=>⟨e,rfl,fun t h1 h2=>by omega⟩,fun e=>Or.inl e⟩
 | m+1,x,a,g,hm,h=>by
  have hx:x<4:=by omega
  rw[qp,EC hv hsh hs hw hk hl hx];simp only[];obtain⟨g1,a1,e1,h1,h2,h3,h4⟩:=sO hv hsh hs hw hk hl hx 4 0 a g (by omega) h;rw[e1];simp only[];obtain⟨g2,a2,e2,k1,k2,k3,k4⟩:=ED hv hsh hs hw hk hl m (x+1) a1 g1 (by omega) h1;refine⟨g2,a2,e2,k1,Nat.le_trans k2 h2,fun e=>?_,fun e=>?_⟩
  ·obtain⟨b1,b2,b3⟩:=k3 e;obtain⟨c1,c2,c3⟩:=h3 b1;subst c2;refine⟨c1,b2,fun x' x1 x2 y hy=>?_⟩;rcases iK x x' with hlt | hge
   ·exact b3 x' hlt x2 y hy
   ·obtain rfl:x'=x:=by omega
    exact c3 y (Nat.zero_le _) hy
  ·rcases k4 e with h | h
   ·rcases h4 h with h | h
    ·exact Or.inl h
    ·exact Or.inr (by omega)
   ·exact Or.inr (by omega)
theorem NZ(hv:VF v)(hsh:Sh v.k.ahead.length s)(hs:iM (aF v) (jT s))(hw:Has v){k:Nat}(hk:k<v.k.ahead.length):∀(m:Nat) (a:Apart) (b:Bool),m<=4->Dz v (jT s) a ->∃b' a',YS v s k (v.k.ahead.getD k ⟨0,0,0,0⟩) m a b=some (b',a')∧Dz v (jT s) a'∧D9 a'<=D9 a∧(b'=false->b=false∧a'=a∧∀l,4-m<=l->l<4->∀x y,x<4->y<4->Told v (jT s) a k l x y)∧(b'=true->b=true∨D9 a'<D9 a)
 | 0,a,b,_,h=>⟨b,a,rfl,h,dH _,fun e=>⟨e,rfl,fun l h1 h2=>by omega⟩,fun e=>Or.inl e⟩
 | m+1,a,b,hm,h=>by
  rw[YS,uj (by omega:3-m<4)];simp only[];obtain⟨b1,a1,e1,h1,h2,h3,h4⟩:=ED hv hsh hs hw (l:=3-m) hk (by omega) 4 0 a false (by omega) h;have e1':qp v s (kz (v.k.ahead.getD k ⟨0,0,0,0⟩) (3-m)) (3-m) k 4 0 a false=some (b1,a1):=e1;rw[e1'];simp only[];obtain⟨b2,a2,e2,k1,k2,k3,k4⟩:=NZ hv hsh hs hw hk m a1 (b||b1) (by omega) h1;refine⟨b2,a2,e2,k1,Nat.le_trans k2 h2,fun e=>?_,fun e=>?_⟩
  ·obtain⟨c1,c2,c3⟩:=k3 e;rw[Bool.or_eq_false_iff]at c1;obtain⟨-,d2,d3⟩:=h3 c1.2;subst d2;refine⟨c1.1,c2,fun l l1 l2 x y hx hy=>?_⟩;rcases iK (3-m) l with hlt | hge
   ·exact c3 l (by omega) l2 x y hx hy
   ·obtain rfl:l=3-m:=by omega
    exact d3 x (Nat.zero_le _) hx y hy
  ·rcases k4 e with h | h
   ·rw[Bool.or_eq_true]at h;rcases h with h | h
    ·exact Or.inl h
    ·rcases h4 h with h | h
     ·cases h
     ·exact Or.inr (by omega)
   ·exact Or.inr (by omega)
theorem N7(hv:VF v)(hsh:Sh v.k.ahead.length s)(hs:iM (aF v) (jT s))(hw:Has v):∀(rs:List R4) (k:Nat) (a:Apart) (b:Bool),rs=v.k.ahead.drop k->Dz v (jT s) a ->∃b' a',Yh v s rs k a b=some (b',a')∧Dz v (jT s) a'∧D9 a'<=D9 a∧(b'=false->b=false∧a'=a∧∀k',k<=k'->k'<v.k.ahead.length->∀l,l<4->∀x y,x<4->y<4->Told v (jT s) a k' l x y)∧(b'=true->b=true∨D9 a'<D9 a)
 | [],k,a,b,hr,h=>⟨b,a,rfl,h,dH _,fun e=>⟨e,rfl,fun k' h1 h2=>by
   have:=congrArg length hr
   simp at this
   omega⟩,fun e=>Or.inl e⟩
 | r::rs,k,a,b,hr,h=>by
  have hk:k<v.k.ahead.length:=by
   have:=congrArg length hr;simp at this;omega
  rw[kJ hk]at hr;injection hr with hr1 hr2;have er:r=v.k.ahead.getD k ⟨0,0,0,0⟩:=by rw[hr1,fM,bG hk];rfl
  rw[Yh,er];obtain⟨b1,a1,e1,h1,h2,h3,h4⟩:=NZ hv hsh hs hw hk 4 a b (dH _) h;rw[e1];simp only[];obtain⟨b2,a2,e2,k1,k2,k3,k4⟩:=N7 hv hsh hs hw rs (k+1) a1 b1 hr2 h1;refine⟨b2,a2,e2,k1,Nat.le_trans k2 h2,fun e=>?_,fun e=>?_⟩
  ·obtain⟨c1,c2,c3⟩:=k3 e;obtain⟨d1,d2,d3⟩:=h3 c1;subst d2;refine⟨d1,c2,fun k' g1 g2 l hl x y hx hy=>?_⟩;rcases iK k k' with hlt | hge
   ·exact c3 k' hlt g2 l hl x y hx hy
   ·obtain rfl:k'=k:=by omega
    exact d3 l (by omega) hl x y hx hy
  ·rcases k4 e with h | h
   ·rcases h4 h with h | h
    ·exact Or.inl h
    ·exact Or.inr (by omega)
   ·exact Or.inr (by omega)
theorem EF(hv:VF v)(hsh:Sh v.k.ahead.length s)(hs:iM (aF v) (jT s))(hw:Has v):∀(f:Nat) (a:Apart),D9 a<f->Dz v (jT s) a->∃a',nT v s f a=some a'∧NS (aF v) (jT s) (AX a')∧YT v.k.ahead.length a'
 | 0,a,h,_=>by omega
 | f+1,a,hf,h=>by
  rw[nT];obtain⟨b1,a1,e1,h1,h2,h3,h4⟩:=N7 hv hsh hs hw v.k.ahead 0 a false rfl h;rw[e1];simp only[]
  cases b1 with
  | false=>
   obtain⟨-,c2,c3⟩:=h3 rfl;subst c2;refine⟨a1,rfl,⟨fun k x y hk hx hy hap z hz hkz=>?_,h1.yes⟩,h1.sh⟩;refine aCI (gK hv) hs (ap:=AX a1) (fun k l x y hk hl hx hy hn=>?_) z k x y hk hx hy hap hz hkz;have ht:=c3 k (Nat.zero_le _) hk l hl x y hx hy;constructor
   ·apply Classical.byContradiction;intro hne;rw[ht (Or.inl hne)]at hn;cases hn
   ·cases hb:AX a1 k ((aF v).st ((aF v).A k l) x l).2 ((aF v).st ((aF v).A k l) y l).2 with
    | false=>rfl
    | true=>
     rw[ht (Or.inr hb)]at hn;cases hn
  | true=>
   have hlt:D9 a1<D9 a:=by
    rcases h4 rfl with h | h
    ·cases h
    ·exact h
   exact EF hv hsh hs hw f a1 (by omega) h1
end
def kd(v:V):List Nat->Nat->Nat
 | [],b=>b
 | l::z,b=>v.A (kd v z b) l
def kds(v:V):List Nat->Nat->List Nat
 | [],_=>[]
 | l::z,b=>kd v (l::z) b::kds v z b
def dJ(v:V)(b:Nat):Nat->List Nat->By × Nat
 | t,[]=>([],t)
 | t,l::z=>((v.st (kd v (l::z) b) t l).1++(dJ v b (v.st (kd v (l::z) b) t l).2 z).1,(dJ v b (v.st (kd v (l::z) b) t l).2 z).2)
theorem KE(v:V):∀z,kd v z 0=kind v z
 | []=>rfl
 | l::z=>by rw[kd,kind,KE v z]
theorem oH(v:V):∀z t,(dJ v 0 t z).1=out v t z
 | [],_=>rfl
 | l::z,t=>by rw[dJ,out,oH v z,KE]
theorem EG(v:V):∀x y b,kd v (x++y) b=kd v x (kd v y b)
 | [],_,_=>rfl
 | l::x,y,b=>by
  show v.A (kd v (x++y) b) l=_;rw[EG v x y b];rfl
theorem jC(v:V):∀x y b t,dJ v b t (x++y)=((dJ v (kd v y b) t x).1++(dJ v b (dJ v (kd v y b) t x).2 y).1,(dJ v b (dJ v (kd v y b) t x).2 y).2)
 | [],y,b,t=>by simp[dJ]
 | l::x,y,b,t=>by
  have e:kd v (l::(x++y)) b=kd v (l::x) (kd v y b):=EG v (l::x) y b;show ((v.st (kd v (l::(x++y)) b) t l).1++(dJ v b (v.st (kd v (l::(x++y)) b) t l).2 (x++y)).1,(dJ v b (v.st (kd v (l::(x++y)) b) t l).2 (x++y)).2)=_;rw[e,jC v x y b,dJ];simp only[append_assoc]
theorem aCJ{v:V}(h:v.Ok):∀z b,Wd z->b<v.n->kd v z b<v.n
 | [],_,_,hb=>hb
 | l::z,b,hz,hb=>h.Jy _ _ (aCJ h z b (fun x hx=>hz x (mem_cons_of_mem _ hx)) hb) (hz l mem_cons_self)
theorem Ur{v:V}(h:v.Ok)(b:Nat):∀z t,t<4->(dJ v b t z).2<4
 | [],_,ht=>ht
 | l::z,t,ht=>by rw[dJ];exact Ur h b z _ (h.left _ _ _ ht)
def ak(w:By):List Nat:=w.map num
def Wb(w:By):Prop:=∀c∈w,lG c=true
theorem aIE(c:UInt8):num c<4:=by
 unfold num;split
 ·rename_i h;unfold lG at h;have:=of_decide_eq_true h;omega
 ·omega
theorem qX(w:By):Wd (ak w):=fun l hl=>by
 obtain⟨c,-,rfl⟩:=mem_map.1 hl;exact aIE c
theorem N8{v:View}(hv:VF v):∀(w:By) (b:Nat),b<v.k.ahead.length->iw v w b=some (kds (aF v) (ak w) b,kd (aF v) (ak w) b)
 | [],_,_=>rfl
 | c::w,b,hb=>by
  have hk:kd (aF v) (ak w) b<v.k.ahead.length:=aCJ (gK hv) _ _ (qX w) hb;rw[iw,N8 hv w b hb];simp only[];rw[Yk hk];simp only[];rw[uj (aIE c)];rfl
theorem N9{v:View}:∀(w:By) (b t:Nat) (acc:By),oO v w (kds (aF v) (ak w) b) acc t=(acc++(dJ (aF v) b t (ak w)).1,(dJ (aF v) b t (ak w)).2)
 | [],_,t,acc=>by simp[ak,oO,dJ]
 | c::w,b,t,acc=>by
  show oO v (c::w) (kd (aF v) (num c::ak w) b::kds (aF v) (ak w) b) acc t=_;rw[oO];rw[N9 w b];show _=(acc++(dJ (aF v) b t (num c::ak w)).1,(dJ (aF v) b t (num c::ak w)).2);rw[dJ];simp only[append_assoc];rfl
theorem mO(hv:VF v)(w:By){b:Nat}(hb:b<v.k.ahead.length)(t:Nat):qU v w b t=some (dJ (aF v) b t (ak w)):=by
 unfold qU;rw[aU (by omega),N8 hv w b hb];simp only[];rw[N9];simp
structure KW(v:View):Prop where
 len:v.k.words.length=v.k.ahead.length
 nil:v.k.words[0]?=some []
 word:∀k w,v.k.words[k]?=some w->Wb w∧kind (aF v) (ak w)=k∧w.length<=k
theorem KW.has(h:KW v):Has v:=fun k hk=>by
 have hk':k<v.k.words.length:=by rw[h.len];exact hk
 exact⟨ak (v.k.words[k]),qX _,(h.word k _ (bG hk')).2.1⟩
def row4(v:View)(w:By):List By:=[out (aF v) 0 (ak w),out (aF v) 1 (ak w),out (aF v) 2 (ak w),out (aF v) 3 (ak w)]
theorem WL(hv:VF v)(w:By):xq v w=some (row4 v w):=by
 unfold xq row4;rw[mO hv w hv.pos,mO hv w hv.pos,mO hv w hv.pos,mO hv w hv.pos];simp only[oH]
theorem Na{v:View}(hv:VF v):∀ws:List By,oP v ws=some (ws.map (row4 v))
 | []=>rfl
 | w::ws=>by rw[oP,WL hv w,Na hv ws];rfl
theorem sS{v:View}(hv:VF v):∀(z:List Nat) (t:Nat),(out (aF v) t z).length<=4*z.length
 | [],_=>by simp[out]
 | l::z,t=>by
  rw[out,length_append,length_cons];have h1:((aF v).st (kind (aF v) (l::z)) t l).1.length<=4:=l7 hv _ _ _;have h2:=sS hv z ((aF v).st (kind (aF v) (l::z)) t l).2;omega
theorem aJJ{ws:List By}{w:By}(hw:ws[k]?=some w)(ht:t<4):jT (ws.map (row4 v)) k t=out (aF v) t (ak w):=by
 unfold jT;rw[show (ws.map (row4 v)).getD k []=row4 v w from by rw[fM,getElem?_map,hw];rfl]
 match t,ht with
 | 0,_=>rfl
 | 1,_=>rfl
 | 2,_=>rfl
 | 3,_=>rfl
theorem Yl{f:By->Nat}{m:Nat}:∀ws:List By,(∀w∈ws,f w<=m)->(ws.map f).sum<=ws.length*m
 | [],_=>by simp
 | w::ws,h=>by
  have h1:=h w mem_cons_self;have h2:=Yl ws fun x hx=>h x (mem_cons_of_mem _ hx)
  simp only[map_cons,sum_cons,length_cons,Nat.succ_mul];omega
theorem RF(hv:VF v)(hk:KW v){f g:Nat}(hf:9000<f)(hg:400<g):∃s a,oP v v.k.words=some (v.k.words.map (row4 v))∧lY v f (v.k.words.map (row4 v))=some s∧nT v s g (replicate s.length [aI.aX,aI.aX,aI.aX,aI.aX])=some a∧Sh v.k.ahead.length s∧iM (aF v) (jT s)∧NS (aF v) (jT s) (AX a)∧YT v.k.ahead.length a∧tot s<=9000:=by
 have hwl:∀w∈v.k.words,w.length<=23:=fun w hw=>by
  obtain⟨k,hk1,hk2⟩:=mem_iff_getElem.1 hw;have:=(hk.word k w (by rw[bG hk1,hk2])).2.2;have h1:=hk.len;have h2:=hv.le;omega
 have hinv:Ah v (v.k.words.map (row4 v)):=by
  refine⟨⟨by rw[length_map];exact hk.len,fun row hrow=>?_⟩,fun t ht=>?_,fun k t T hkn ht hT=>?_⟩
  ·obtain⟨w,-,rfl⟩:=mem_map.1 hrow;rfl
  ·rw[aJJ hk.nil ht];rfl
  ·have hk':k<v.k.words.length:=by rw[hk.len];exact hkn
   have hw:=bG hk';rw[aJJ hw ht];exact hT _ (qX _) (hk.word k _ hw).2.1
 have htot:tot (v.k.words.map (row4 v))<=9000:=by
  have e0:tot (v.k.words.map (row4 v))=(v.k.words.map fun w=>((row4 v w).map length).sum).sum:=by
   unfold tot;rw[map_map];rfl
  have h1:∀w∈v.k.words,((row4 v w).map length).sum<=368:=fun w hw=>by
   have hl:=hwl w hw;have e:(ak w).length=w.length:=length_map _;have o0:=sS hv (ak w) 0;have o1:=sS hv (ak w) 1;have o2:=sS hv (ak w) 2;have o3:=sS hv (ak w) 3;simp only[row4,map_cons,map_nil,sum_cons,sum_nil];omega
  have h2:=Yl (f:=fun w=>((row4 v w).map length).sum) (m:=368) v.k.words h1;have h3:v.k.words.length<=24:=by rw[hk.len];exact hv.le
  have h4:=Nat.mul_le_mul_right 368 h3;rw[e0];omega
 obtain⟨s,e1,i1,i2,i3⟩:=Bd hv f _ (by omega) hinv;have hs:=aBo hv i1 i3;have hsl:=i1.sh.1;have hA:Dz v (jT s) (replicate s.length [aI.aX,aI.aX,aI.aX,aI.aX]):=by
  refine⟨⟨by rw[length_replicate];exact hsl,fun r hr=>?_,fun r hr q hq=>?_⟩,fun k x y hk' hx hy he=>?_⟩
  ·rw[eq_of_mem_replicate hr];rfl
  ·rw[eq_of_mem_replicate hr]at hq;simp only[mem_cons,not_mem_nil,or_false,or_self]at hq;rw[hq];rfl
  ·exfalso;have:AX (replicate s.length [aI.aX,aI.aX,aI.aX,aI.aX]) k x y=false:=by
    unfold AX;rw[show (replicate s.length [aI.aX,aI.aX,aI.aX,aI.aX]).getD k []=[aI.aX,aI.aX,aI.aX,aI.aX] from by rw[fM,getElem?_replicate,aP (by rw[hsl];exact hk')];rfl]
    match x,y,hx,hy with
    | 0,0,_,_=>rfl
    | 0,1,_,_=>rfl
    | 0,2,_,_=>rfl
    | 0,3,_,_=>rfl
    | 1,0,_,_=>rfl
    | 1,1,_,_=>rfl
    | 1,2,_,_=>rfl
    | 1,3,_,_=>rfl
    | 2,0,_,_=>rfl
    | 2,1,_,_=>rfl
    | 2,2,_,_=>rfl
    | 2,3,_,_=>rfl
    | 3,0,_,_=>rfl
    | 3,1,_,_=>rfl
    | 3,2,_,_=>rfl
    | 3,3,_,_=>rfl
   rw[this]at he;cases he
 have hfl:D9 (replicate s.length [aI.aX,aI.aX,aI.aX,aI.aX])<g:=by
  unfold D9;rw[map_replicate,sum_replicate_nat];have:(([aI.aX,aI.aX,aI.aX,aI.aX]:List (List Bool)).map fun q=>q.countP (·==false)).sum=16:=rfl;rw[this,hsl];have:=hv.le;omega
 obtain⟨a,e2,i4,i5⟩:=EF hv i1.sh hs hk.has g _ hfl hA;exact⟨s,a,Na hv _,e1,e2,i1.sh,hs,i4,i5,by omega⟩
def rep{α:Type}(y:List α):Nat->List α
 | 0=>[]
 | m+1=>y++rep y m
theorem wM{α:Type}(y:List α):∀m,(rep y m).length=m*y.length
 | 0=>by simp[rep]
 | m+1=>by rw[rep,length_append,wM y m,Nat.succ_mul];omega
theorem KF{α:Type}(y:List α):∀a b,rep y (a+b)=rep y a++rep y b
 | 0,b=>by rw[Nat.zero_add];rfl
 | a+1,b=>by rw[show a+1+b=(a+b)+1 by omega,rep,rep,KF y a b,append_assoc]
theorem Ut{α:Type}(y:List α):∀m i,i<m*y.length->(rep y m)[i]?=y[i%y.length]?
 | 0,i,h=>by simp at h
 | m+1,i,h=>by
  rw[Nat.succ_mul]at h;have hy:0<y.length:=by
   rcases Nat.eq_zero_or_pos y.length with h0 | h0
   ·rw[h0,Nat.mul_zero]at h;omega
   ·exact h0
  rw[rep];rcases iK i y.length with hlt | hge
  ·rw[jG hlt,Nat.mod_eq_of_lt hlt]
  ·rw[mW hge,Ut y m (i-y.length) (by omega),Nat.mod_eq_sub_mod hge]
def uO(u v:By):Nat:=u.length+v.length-2*common u v
theorem ul:∀a b:By,common a b<=b.length
 | [],b=>by simp[common]
 | _::_,[]=>by simp[common]
 | x::a,y::b=>by
  rw[common];have:=ul a b;split <;> simp <;> omega
theorem Be:∀a b:By,common a b<=a.length
 | [],b=>by simp[common]
 | _::_,[]=>by simp[common]
 | x::a,y::b=>by
  rw[common];have:=Be a b;split <;> simp <;> omega
theorem Ik:∀(a b:By) (i:Nat),i<common a b->a[i]?=b[i]?
 | [],b,i,h=>by simp[common]at h
 | _::_,[],i,h=>by simp[common]at h
 | x::a,y::b,i,h=>by
  rw[common]at h;split at h
  ·rename_i e;subst e
   match i with
   | 0=>rfl
   | i+1=>
    rw[getElem?_cons_succ,getElem?_cons_succ];exact Ik a b i (by omega)
  ·omega
theorem Nb(u v:By)(n:Nat)(h:u.length+n<=v.length∨v.length+n<=u.length):n<=uO u v:=by
 have h1:=Be u v;have h2:=ul u v;unfold uO;omega
theorem aBs(u v:By)(n i:Nat)(hd:u[i]?≠v[i]?)(hu:i+n<=u.length):n<=uO u v:=by
 have h1:common u v<=i:=by
  rcases iK i (common u v)with h | h
  ·exact absurd (Ik u v i h) hd
  ·exact h
 have h2:=ul u v;unfold uO;omega
def says(w:aA)(m:Nat):By:=w.tt++(rep w.ro m++w.re)
theorem KG{w:aA}(h:i<w.tt.length+m*w.ro.length):∃c,(says w m)[i]?=some c∧Ba w i=c.toNat:=by
 unfold says Ba;rcases iK i w.tt.length with hlt | hge
 ·rw[jG hlt,aP hlt,bG hlt];exact⟨_,rfl,by rw[fM,bG hlt];rfl⟩
 ·have hr:0<w.ro.length:=by
   rcases Nat.eq_zero_or_pos w.ro.length with h0 | h0
   ·rw[h0,Nat.mul_zero]at h;omega
   ·exact h0
  have hmod:=Nat.mod_lt (i-w.tt.length) hr;rw[mW hge,aU (by omega),jG (by rw[wM];omega),Ut _ _ _ (by omega),bG hmod];have hne:w.ro.isEmpty=false:=by
   cases e:w.ro with
   | nil=>rw[e]at hr;simp at hr
   | cons x xs=>rfl
  rw[hne];simp only[Bool.false_eq_true,if_false];exact⟨_,rfl,by rw[fM,bG hmod];rfl⟩
theorem EH(w:aA)(m:Nat):(says w m).length=w.tt.length+m*w.ro.length+w.re.length:=by
 unfold says;rw[length_append,length_append,wM];omega
theorem EJ(h:outgrow one other=some (c,true))(n:Nat):(says other (n+c)).length+n<=(says one (n+c)).length:=by
 unfold outgrow at h;simp only at h;rw[EH,EH];split at h
 ·rename_i hc;simp only[Option.some.injEq,Prod.mk.injEq,decide_eq_true_eq]at h;obtain⟨rfl,hg⟩:=h;have hb:(other.tt.length:Int)+other.re.length-one.tt.length-one.re.length<=0:=by
   rcases hc with hc | hc
   ·exact hc
   ·omega
  have h1:(n+0)*other.ro.length+n<=(n+0)*one.ro.length:=by
   have:(n+0)*(other.ro.length+1)<=(n+0)*one.ro.length:=Nat.mul_le_mul_left _ (by omega);rw[Nat.mul_add]at this;omega
  omega
 ·rename_i hc;simp only[Option.some.injEq,Prod.mk.injEq,and_true]at h;obtain⟨B,hB⟩:∃B:Nat,(B:Int)=other.tt.length+other.re.length-one.tt.length-one.re.length:=⟨((other.tt.length:Int)+other.re.length-one.tt.length-one.re.length).toNat,by omega⟩;obtain⟨G,hG⟩:∃G:Nat,(G:Int)=one.ro.length-other.ro.length:=⟨((one.ro.length:Int)-other.ro.length).toNat,by omega⟩;have hG0:0<G:=by omega
  rw[<-hB,<-hG]at h;have hcv:c=(B+G-1)/G:=by
   rw[<-h,show (B:Int)+(G:Int)-1=((B+G-1:Nat):Int) by omega];rw[<-Int.natCast_ediv];exact Int.toNat_natCast _
  have hcg:B<=c*G:=by
   rw[hcv];have h1:=Nat.div_add_mod (B+G-1) G;have h2:=Nat.mod_lt (B+G-1) hG0;rw[Nat.mul_comm]at h1;omega
  have h2:(n+c)*one.ro.length=(n+c)*other.ro.length+(n*G+c*G):=by
   rw[show one.ro.length=other.ro.length+G by omega,Nat.mul_add,Nat.add_mul n c G]
  have h3:=Nat.le_mul_of_pos_right n hG0;omega
theorem Il{one other:aA}{least size c:Nat}:∀(k i:Nat),iT one other least size k i=(c,true)->∃j,Ba one j≠Ba other j∧c=if j<least then 0 else (j-least)/size+1
 | 0,i,h=>by rw[iT]at h;cases h
 | k+1,i,h=>by
  rw[iT]at h;split at h
  ·exact Il k (i+1) h
  ·rename_i hne;refine⟨i,hne,?_⟩;split at h
   ·rename_i hl;rw[aP hl];injection h with h1 _;exact h1.symm
   ·rename_i hl;rw[aU hl];injection h with h1 _;exact h1.symm
theorem Ym(h:ahead' one other=some (c,true))(n:Nat):n<=uO (says one (n+c)) (says other (n+c)):=by
 unfold ahead' at h;split at h
 ·rename_i he;simp only at h;split at h
  ·simp at h
  ·rename_i hs;obtain⟨j,hne,hc⟩:=Il _ _ (dY h);obtain⟨size,hsz⟩:=eX one.ro.length;rw[<-hsz]at hs hc he;have hj:j<min one.tt.length other.tt.length+c*size∧True:=by
    split at hc
    ·rename_i hl;exact⟨by omega,trivial⟩
    ·rename_i hl;have h1:=Nat.div_add_mod (j-min one.tt.length other.tt.length) size;have h2:=Nat.mod_lt (j-min one.tt.length other.tt.length) (show 0<size by omega);rw[Nat.mul_comm]at h1;rw[hc,Nat.succ_mul];exact⟨by omega,trivial⟩
   have hm:(n+c)*size=n*size+c*size:=Nat.add_mul _ _ _;have hn:n<=n*size:=Nat.le_mul_of_pos_right n (by omega);obtain⟨x,hx1,hx2⟩:=KG (w:=one) (m:=n+c) (i:=j) (by rw[<-hsz,hm];omega);obtain⟨y,hy1,hy2⟩:=KG (w:=other) (m:=n+c) (i:=j) (by rw[<-he,hm];omega);refine aBs _ _ n j (fun e=>?_) (by rw[EH,<-hsz,hm];omega);rw[hx1,hy1]at e;injection e with e;exact hne (by rw[hx2,hy2,e])
 ·split at h
  ·exact Nb _ _ _ (Or.inl (EJ h n))
  ·exact Nb _ _ _ (Or.inr (EJ h n))
theorem RG(v:V){x y z:List Nat}(hx:(dJ v k 0 x).2=t)(hk:kd v y k=k)(ht:(dJ v k t y).2=t)(hz:kind v z=k):∀m,R v (x++(rep y m++z))=(dJ v k 0 x).1++(rep (dJ v k t y).1 m++out v t z):=by
 have h1:∀m,kd v (rep y m++z) 0=k∧(dJ v 0 t (rep y m++z)).1=rep (dJ v k t y).1 m++out v t z:=fun m=>by
  induction m with
  | zero=>exact⟨(KE v z).trans hz,oH v z t⟩
  | succ m ih=>
   rw[rep,append_assoc,EG,ih.1,jC,ih.1,ht];exact⟨hk,by rw[ih.2,rep,append_assoc]⟩
 intro m;show out v 0 (x++(rep y m++z))=_;rw[<-oH,jC,(h1 m).1,hx,(h1 m).2]
def PV(n:Nat)(p:Pair):Prop:=p.x<n∧p.s<4∧p.y<n∧p.t<4
theorem WN(hp:PV n p)(hq:PV n q)(h:placeOf n p=placeOf n q):p=q:=by
 unfold placeOf at h;obtain⟨px,ps,py,pt⟩:=p;obtain⟨qx,qs,qy,qt⟩:=q;obtain⟨h1,h2,h3,h4⟩:=hp;obtain⟨g1,g2,g3,g4⟩:=hq;simp only at *;have hm:0<n*4:=by omega
 obtain⟨N,hN⟩:=eX (n*4);rw[<-hN]at h hm;have a1:py*4+pt<N:=by omega
 have a2:qy*4+qt<N:=by omega
 rw[Nat.add_assoc,Nat.add_assoc]at h;have e1:=congrArg (·/N) h;have e2:=congrArg (·%N) h;simp only[Nat.mul_comm _ N,Nat.mul_add_div hm,Nat.mul_add_mod,Nat.div_eq_of_lt a1,Nat.div_eq_of_lt a2,Nat.mod_eq_of_lt a1,Nat.mod_eq_of_lt a2]at e1 e2;have b1:px=qx:=by omega
 have b2:ps=qs:=by omega
 have b3:py=qy:=by omega
 have b4:pt=qt:=by omega
 rw[b1,b2,b3,b4]
structure NI(n:Nat)(pairs:List Pair)(nums:List Nat):Prop where
 val:∀p∈pairs,PV n p
 num:∀k u,nums[k]?=some (u+1)->∃p,pairs[u]?=some p∧placeOf n p=k
theorem yt{nums:List Nat}(h:NI n pairs nums)(hp:PV n p)(hg:oZ n pairs nums p=some (k,ps,ns)):NI n ps ns∧ps[k]?=some p∧∃more,ps=pairs++more:=by
 unfold oZ at hg;split at hg
 ·cases hg
 ·rename_i h0;injection hg with hg;injection hg with e1 hg;injection hg with e2 e3;subst e1 e2 e3;have hl:=(bU h0).1;refine⟨⟨fun q hq=>?_,fun k u hu=>?_⟩,by simp,[p],rfl⟩
  ·rcases mem_append.1 hq with hq | hq
   ·exact h.val q hq
   ·simp at hq;subst hq;exact hp
  ·rw[getElem?_set]at hu;split at hu
   ·rename_i hk;injection hu with hu;have:u=pairs.length:=by omega
    subst this;exact⟨p,by simp,hk⟩
   ·obtain⟨q,h1,h2⟩:=h.num k u hu;exact⟨q,by rw[jG (bU h1).1];exact h1,h2⟩
 ·rename_i u hu;injection hg with hg;injection hg with e1 hg;injection hg with e2 e3;subst e1 e2 e3;obtain⟨q,h1,h2⟩:=h.num _ _ hu;have:=WN (h.val q (iI h1)) hp h2;subst this;exact⟨h,h1,[],by simp⟩
structure Rel(v:View)(p:Pair)(s:Stp)(q:Pair):Prop where
 l4:s.l<4
 ax:(aF v).A q.x s.l=p.x
 ay:(aF v).A q.y s.l=p.y
 sx:aW v p.x p.s s.l=(s.s0,q.s)
 sy:aW v p.y p.t s.l=(s.s1,q.t)
structure GI(v:View)(g:Gr):Prop where
 ni:NI v.k.ahead.length g.pairs g.nums
 st:∀s∈g.steps,∃p q,g.pairs[s.fr]?=some p∧g.pairs[s.tt]?=some q∧Rel v p s q
theorem GI.grow(h:GI v g)(hn:NI v.k.ahead.length ps ns)(hm:∃more,ps=g.pairs++more){ss:List Stp}(hs:∀s∈ss,∃p q,ps[s.fr]?=some p∧ps[s.tt]?=some q∧Rel v p s q):GI v ⟨ps,ns,g.steps++ss⟩:=by
 obtain⟨more,rfl⟩:=hm;refine⟨hn,fun s hs'=>?_⟩;rcases mem_append.1 hs' with h1 | h1
 ·obtain⟨p,q,a,b,c⟩:=h.st s h1;exact⟨p,q,by show (g.pairs++more)[s.fr]?=_;rw[jG (bU a).1];exact a,by show (g.pairs++more)[s.tt]?=_;rw[jG (bU b).1];exact b,c⟩
 ·exact hs s h1
section
variable {v:View}
structure Ext(g g':Gr)(fr:Nat):Prop where
 pairs:∃more,g'.pairs=g.pairs++more
 steps:∃ss,g'.steps=g.steps++ss∧∀s∈ss,s.fr=fr
theorem Ext.refl(g:Gr)(fr:Nat):Ext g g fr:=⟨⟨[],by simp⟩,[],by simp,fun s hs=>by cases hs⟩
theorem Ext.trans{a b c:Gr}(h:Ext a b fr)(k:Ext b c fr):Ext a c fr:=by
 obtain⟨m1,e1⟩:=h.pairs;obtain⟨m2,e2⟩:=k.pairs;obtain⟨s1,f1,g1⟩:=h.steps;obtain⟨s2,f2,g2⟩:=k.steps;refine⟨⟨m1++m2,by rw[e2,e1,append_assoc]⟩,s1++s2,by rw[f2,f1,append_assoc],fun s hs=>?_⟩;rcases mem_append.1 hs with h | h
 ·exact g1 s h
 ·exact g2 s h
theorem EK(hv:VF v){fr l:Nat}(hl:l<4){p:Pair}(hp:PV v.k.ahead.length p){x:Nat}(hx:x<v.k.ahead.length)(hax:(aF v).A x l=p.x):∀(rs:List R4) (y:Nat) (g g':Gr),rs=v.k.ahead.drop y->GI v g->g.pairs[fr]?=some p->jy v.k.ahead.length fr l p (aW v p.x p.s l) (aW v p.y p.t l) x rs y g=some g'->GI v g'∧Ext g g' fr
 | [],y,g,g',_,h,_,e=>by rw[jy]at e;cases e;exact⟨h,Ext.refl _ _⟩
 | r::rs,y,g,g',hr,h,hf,e=>by
  have hy:y<v.k.ahead.length:=by
   have:=congrArg length hr;rw[length_drop]at this;simp at this;omega
  rw[kJ hy]at hr;injection hr with hr1 hr2;have er:r=v.k.ahead.getD y ⟨0,0,0,0⟩:=by rw[hr1,fM,bG hy];rfl
  rw[jy,er,uj hl]at e;simp only[]at e;split at e
  ·rename_i hk;split at e
   ·split at e
    ·cases e
    ·rename_i tt ps ns hg;have hpv:PV v.k.ahead.length ⟨x,(aW v p.x p.s l).2,y,(aW v p.y p.t l).2⟩:=⟨hx,gX hv _ _ _ hp.2.1,hy,gX hv _ _ _ hp.2.2.2⟩;obtain⟨n1,n2,n3⟩:=yt h.ni hpv hg;have hf':ps[fr]?=some p:=by
      obtain⟨more,rfl⟩:=n3;rw[jG (bU hf).1];exact hf
     have hstep:∀s∈[(⟨fr,tt,l,(aW v p.x p.s l).1,(aW v p.y p.t l).1⟩:Stp)],∃p q,ps[s.fr]?=some p∧ps[s.tt]?=some q∧Rel v p s q:=fun s hs=>by
      simp at hs;subst hs;exact⟨p,_,hf',n2,⟨hl,hax,hk,rfl,rfl⟩⟩
     have h':=h.grow n1 n3 hstep;obtain⟨k1,k2⟩:=EK hv hl hp hx hax rs (y+1) _ g' hr2 h' hf' e;exact⟨k1,Ext.trans ⟨n3,_,rfl,fun s hs=>by simp at hs;subst hs;rfl⟩ k2⟩
   ·cases e
  ·exact EK hv hl hp hx hax rs (y+1) g g' hr2 h hf e
theorem EL(hv:VF v){fr l:Nat}(hl:l<4){p:Pair}(hp:PV v.k.ahead.length p):∀(rs:List R4) (x:Nat) (g g':Gr),rs=v.k.ahead.drop x->GI v g->g.pairs[fr]?=some p->kR v.k.ahead.length fr l p (aW v p.x p.s l) (aW v p.y p.t l) v.k.ahead rs x g=some g'->GI v g'∧Ext g g' fr
 | [],y,g,g',_,h,_,e=>by rw[kR]at e;cases e;exact⟨h,Ext.refl _ _⟩
 | r::rs,x,g,g',hr,h,hf,e=>by
  have hx:x<v.k.ahead.length:=by
   have:=congrArg length hr;rw[length_drop]at this;simp at this;omega
  rw[kJ hx]at hr;injection hr with hr1 hr2;have er:r=v.k.ahead.getD x ⟨0,0,0,0⟩:=by rw[hr1,fM,bG hx];rfl
  rw[kR,er,uj hl]at e;simp only[]at e;split at e
  ·rename_i hk;split at e
   ·cases e
   ·rename_i g2 hg2;obtain⟨k1,k2⟩:=EK hv hl hp hx hk v.k.ahead 0 g g2 rfl h hf hg2;have hf2:g2.pairs[fr]?=some p:=by
     obtain⟨more,em⟩:=k2.pairs;rw[em,jG (bU hf).1];exact hf
    obtain⟨j1,j2⟩:=EL hv hl hp rs (x+1) g2 g' hr2 k1 hf2 e;exact⟨j1,k2.trans j2⟩
  ·exact EL hv hl hp rs (x+1) g g' hr2 h hf e
theorem yu(hv:VF v)(hl:l<4){g':Gr}(h:GI v g)(e:lead v fr l g=some g'):GI v g'∧Ext g g' fr:=by
 unfold lead at e;split at e
 ·cases e
 ·rename_i p hp;split at e
  ·rename_i hc;exact EL hv hl hc v.k.ahead 0 g g' rfl h hp e
  ·cases e
theorem um(hv:VF v){fr:Nat}:∀(c:Nat) (g g':Gr),c<=4->GI v g->kT v fr c g=some g'->GI v g'∧Ext g g' fr
 | 0,g,g',_,h,e=>by rw[kT]at e;cases e;exact⟨h,Ext.refl _ _⟩
 | c+1,g,g',hc,h,e=>by
  rw[kT]at e;split at e
  ·cases e
  ·rename_i g2 hg;obtain⟨k1,k2⟩:=yu hv (by omega) h hg;obtain⟨j1,j2⟩:=um hv c g2 g' (by omega) k1 e;exact⟨j1,k2.trans j2⟩
theorem Nc{x:Nat}(hx:x<v.k.ahead.length):∀(c y:Nat) (g g':Gr),y+c<=v.k.ahead.length->GI v g->(∀p∈g.pairs,p.s=0∧p.t=0)->lH v.k.ahead.length x c y g=some g'->GI v g'∧g'.steps=g.steps∧∀p∈g'.pairs,p.s=0∧p.t=0
 | 0,y,g,g',_,h,hz,e=>by rw[lH]at e;cases e;exact⟨h,rfl,hz⟩
 | c+1,y,g,g',hc,h,hz,e=>by
  rw[lH]at e;split at e
  ·split at e
   ·cases e
   ·rename_i k ps ns hg;obtain⟨n1,n2,n3⟩:=yt h.ni (p:=⟨x,0,y,0⟩) ⟨hx,by show (0:Nat)<4;omega,by show y<_;omega,by show (0:Nat)<4;omega⟩ hg;have h':=h.grow n1 n3 (ss:=[]) (fun s hs=>by cases hs);rw[append_nil]at h';have hz':∀p∈ps,p.s=0∧p.t=0:=fun p hp=>by
     unfold oZ at hg;split at hg
     ·cases hg
     ·injection hg with hg;injection hg with e1 hg;injection hg with e2 e3;rw[<-e2]at hp;rcases mem_append.1 hp with hp | hp
      ·exact hz p hp
      ·simp at hp;subst hp;exact⟨rfl,rfl⟩
     ·injection hg with hg;injection hg with e1 hg;injection hg with e2 e3;rw[<-e2]at hp;exact hz p hp
    obtain⟨k1,k2,k3⟩:=Nc hx c (y+1) _ g' (by omega) h' hz' e;exact⟨k1,k2,k3⟩
  ·cases e
theorem EM:∀(c x:Nat) (g g':Gr),x+c<=v.k.ahead.length->GI v g->(∀p∈g.pairs,p.s=0∧p.t=0)->kS v.k.ahead.length c x g=some g'->GI v g'∧g'.steps=g.steps∧∀p∈g'.pairs,p.s=0∧p.t=0
 | 0,x,g,g',_,h,hz,e=>by rw[kS]at e;cases e;exact⟨h,rfl,hz⟩
 | c+1,x,g,g',hc,h,hz,e=>by
  rw[kS]at e;split at e
  ·cases e
  ·rename_i g2 hg;obtain⟨k1,k2,k3⟩:=Nc (x:=x) (by omega) _ _ g g2 (by omega) h hz hg;obtain⟨j1,j2,j3⟩:=EM c (x+1) g2 g' (by omega) k1 k3 e;exact⟨j1,by rw[j2,k2],j3⟩
end
structure Lead(v:View)(p:Pair)(w:List Nat)(q:Pair):Prop where
 wd:Wd w
 kx:kd (aF v) w q.x=p.x
 ky:kd (aF v) w q.y=p.y
 tx:(dJ (aF v) q.x p.s w).2=q.s
 ty:(dJ (aF v) q.y p.t w).2=q.t
theorem Lead.refl(v:View)(p:Pair):Lead v p [] p:=⟨fun x hx=>(by cases hx),rfl,rfl,rfl,rfl⟩
theorem Lead.trans{r:Pair}{w u:List Nat}(h:Lead v p w q)(k:Lead v q u r):Lead v p (w++u) r:=by
 refine⟨fun x hx=>?_,by rw[EG,k.kx,h.kx],by rw[EG,k.ky,h.ky],by rw[jC,k.kx,h.tx,k.tx],by rw[jC,k.ky,h.ty,k.ty]⟩;rcases mem_append.1 hx with h1 | h1
 ·exact h.wd x h1
 ·exact k.wd x h1
theorem Rel.lead{s:Stp}(h:Rel v p s q):Lead v p [s.l] q:=by
 refine⟨fun x hx=>by simp at hx;subst hx;exact h.l4,h.ax,h.ay,?_,?_⟩
 ·show (aW v ((aF v).A q.x s.l) p.s s.l).2=q.s;rw[h.ax,h.sx]
 ·show (aW v ((aF v).A q.y s.l) p.t s.l).2=q.t;rw[h.ay,h.sy]
theorem jZ(hl:l<4):ak (aT l)=[l]:=by
 match l,hl with
 | 0,_=>rfl
 | 1,_=>rfl
 | 2,_=>rfl
 | 3,_=>rfl
theorem gQ(a b:By):ak (a++b)=ak a++ak b:=map_append
theorem kU(hl:l<4):Wb (aT l):=by
 intro c hc
 match l,hl with
 | 0,_=>simp[aT]at hc;subst hc;rfl
 | 1,_=>simp[aT]at hc;subst hc;rfl
 | 2,_=>simp[aT]at hc;subst hc;rfl
 | 3,_=>simp[aT]at hc;subst hc;rfl
theorem nO{a b:By}(ha:Wb a)(hb:Wb b):Wb (a++b):=fun c hc=>by
 rcases mem_append.1 hc with h | h
 ·exact ha c h
 ·exact hb c h
def YU(v:View)(pairs:List Pair)(found:List fH):Prop:=∀i f,found[i]?=some f->f.l<4∧∃q,pairs[f.pair]?=some q∧((f.fr=-1∧q.s=0∧q.t=0)∨∃(j:Nat) (g:fH) (p:Pair),f.fr=(j:Int)∧j<i∧found[j]?=some g∧pairs[g.pair]?=some p∧Lead v p [f.l] q)
def up(found:List fH):Nat->Int->Int
 | 0,i=>i
 | n+1,i=>if i<0 then i else match found[i.toNat]? with
  | none=>i
  | some f=>up found n f.fr
section
variable {v:View} {pairs:List Pair} {found:List fH}
theorem aC7:∀n (i:Int),i<0->up found n i=i
 | 0,_,_=>rfl
 | n+1,i,h=>by rw[up,aP h]
theorem WO(from':Int){i:Int}(hi:i<0):∀(fuel:Nat) (acc t:By),eF found from' fuel i acc=some t->t=acc
 | 0,acc,t,e=>by rw[eF]at e;cases e
 | n+1,acc,t,e=>by
  rw[eF,aP (Or.inl hi)]at e;exact(dY e).symm
theorem uo(h:YU v pairs found):∀(fuel:Nat) (i:Nat) (acc t:By),eF found (-1) fuel (i:Int) acc=some t->∃(f:fH) (u:By) (p0 p:Pair),found[i]?=some f∧pairs[f.pair]?=some p∧t=u++acc∧p0.s=0∧p0.t=0∧Lead v p0 (ak u) p∧Wb u
 | 0,i,acc,t,e=>by rw[eF]at e;cases e
 | n+1,i,acc,t,e=>by
  rw[eF,aU (by omega),Int.toNat_natCast]at e;split at e
  ·cases e
  ·rename_i f hf;split at e
   ·obtain⟨hl,q,hq,hor⟩:=h _ f hf;rcases hor with ⟨e1,z1,z2⟩ | ⟨j,g,p,e1,hj,hg,hp,hlead⟩
    ·rw[aU (by omega)]at e;have:=WO (-1) (by omega) n acc t e;exact⟨f,[],q,q,hf,hq,by rw[this];rfl,z1,z2,Lead.refl _ _,fun c hc=>by cases hc⟩
    ·rw[aP (by omega),e1]at e;obtain⟨f2,u,p0,p2,hf2,hp2,e2,z1,z2,hl2,hu⟩:=uo h n j _ t e;rw[hg]at hf2;cases hf2;rw[hp]at hp2;cases hp2;refine⟨f,u++aT f.l,p0,q,hf,hq,by rw[e2,append_assoc],z1,z2,?_,nO hu (kU hl)⟩;rw[gQ,jZ hl];exact hl2.trans hlead
   ·cases e
theorem EO(h:YU v pairs found){j:Nat}{g:fH}{p:Pair}(hgj:found[j]?=some g)(hpj:pairs[g.pair]?=some p):∀(fuel m i:Nat) (acc t:By),up found m (i:Int)=j->eF found (j:Int) fuel (i:Int) acc=some t->∃(f:fH) (u:By) (q:Pair),found[i]?=some f∧pairs[f.pair]?=some q∧t=u++acc∧Lead v p (ak u) q∧Wb u
 | 0,m,i,acc,t,_,e=>by rw[eF]at e;cases e
 | n+1,m,i,acc,t,hup,e=>by
  by_cases hij:i=j
  ·subst hij;rw[eF,aP (Or.inr rfl)]at e;exact⟨g,[],p,hgj,hpj,(dY e).symm,Lead.refl _ _,fun c hc=>by cases hc⟩
  ·rw[eF,aU (by omega),Int.toNat_natCast]at e;split at e
   ·cases e
   ·rename_i f hf;split at e
    ·obtain⟨hl,q,hq,hor⟩:=h _ f hf
     match m,hup with
     | 0,hup=>rw[up]at hup;omega
     | m+1,hup=>
      rw[up,aU (by omega),Int.toNat_natCast,hf]at hup;simp only[]at hup;rcases hor with ⟨e1,z1,z2⟩ | ⟨k,g2,p2,e1,hk,hg,hp,hlead⟩
      ·rw[e1,aC7 m _ (by omega)]at hup;omega
      ·rw[e1]at hup;rw[aP (by omega),e1]at e;obtain⟨f2,u,q2,hf2,hq2,e2,hl2,hu⟩:=EO h hgj hpj n m k _ t hup e;rw[hg]at hf2;cases hf2;rw[hp]at hq2;cases hq2;refine⟨f,u++aT f.l,q,hf,hq,by rw[e2,append_assoc],?_,nO hu (kU hl)⟩;rw[gQ,jZ hl];exact hl2.trans hlead
    ·cases e
end
def Qo(steps:List Stp)(on:List Int):Prop:=∀(k:Nat) (o:Int),on[k]?=some o->0<=o->∃s,steps[o.toNat]?=some s∧s.fr=k
theorem EP(fr:Nat):∀(met:List Nat) (i k:Nat),idx fr met i=some k->i<=k∧met[k-i]?=some fr
 | [],i,k,h=>by rw[idx]at h;cases h
 | x::xs,i,k,h=>by
  rw[idx]at h;split at h
  ·rename_i e;cases h;subst e;exact⟨dH _,by simp⟩
  ·obtain⟨h1,h2⟩:=EP fr xs (i+1) k h;refine⟨by omega,?_⟩;rw[show k-i=(k-(i+1))+1 by omega,getElem?_cons_succ];exact h2
theorem Io{v:View}{g:M3.Gr}(hg:GI v g){on:List Int}(hon:Qo g.steps on){p0:Pair}:∀(fuel:Nat) (met:List Nat) (w:By) (fr:Nat) (a b:By) (en:Nat),w.length=met.length->Wb w->(∃q,g.pairs[fr]?=some q∧Lead v p0 (ak w) q∧∀k m,met[k]?=some m->∃pm,g.pairs[m]?=some pm∧Lead v p0 (ak (w.take k)) pm∧Lead v pm (ak (w.drop k)) q) ->bY on g.steps fuel met w fr=some (a,b,en)->∃q,g.pairs[en]?=some q∧Lead v p0 (ak a) q∧Lead v q (ak b) q∧Wb a∧Wb b
 | 0,met,w,fr,a,b,en,_,_,_,e=>by rw[bY]at e;cases e
 | n+1,met,w,fr,a,b,en,hlen,hwb,⟨q,hq,hl,hall⟩,e=>by
  rw[bY]at e;split at e
  ·cases e
  ·rename_i o ho;split at e
   ·cases e;exact⟨q,hq,hl,Lead.refl _ _,hwb,fun c hc=>by cases hc⟩
   ·rename_i hneg;split at e
    ·rename_i i hi;cases e;obtain⟨-,h2⟩:=EP fr met 0 i hi;rw[Nat.sub_zero]at h2;obtain⟨pm,h3,h4,h5⟩:=hall i fr h2;rw[hq]at h3;cases h3;exact⟨q,hq,h4,h5,fun c hc=>hwb c (mem_of_mem_take hc),fun c hc=>hwb c (mem_of_mem_drop hc)⟩
    ·split at e
     ·cases e
     ·rename_i s hs;split at e
      ·rename_i hc;obtain⟨s',hs',hfr⟩:=hon fr o ho (by omega);rw[hs]at hs';cases hs';obtain⟨p1,q1,a1,a2,a3⟩:=hg.st s (iI hs);rw[hfr,hq]at a1;cases a1;have hle:=jZ hc.1;have hll:(aT s.l).length=1:=rfl;refine Io hg hon n (met++[fr]) (w++aT s.l) s.tt a b en (by rw[length_append,length_append,hlen,hll];rfl) (nO hwb (kU hc.1)) ⟨q1,a2,by rw[gQ,hle];exact hl.trans a3.lead,fun k m hk=>?_⟩ e;rcases iK k met.length with hlt | hge
       ·rw[jG hlt]at hk;obtain⟨pm,b1,b2,b3⟩:=hall k m hk;refine⟨pm,b1,by rw[take_append_of_le_length (by omega)];exact b2,?_⟩;rw[drop_append_of_le_length (by omega),gQ,hle];exact b3.trans a3.lead
       ·rw[mW hge]at hk;have hk0:k-met.length=0:=by
         have:=(bU hk).1;simp at this;omega
        rw[hk0]at hk;simp at hk;subst hk;have:k=w.length:=by omega
        subst this;refine⟨q,hq,by rw[take_left];exact hl,?_⟩;rw[drop_left,hle];exact a3.lead
      ·cases e
theorem yw(y:By):∀m,ak (rep y m)=rep (ak y) m
 | 0=>rfl
 | m+1=>by rw[rep,rep,gQ,yw y m]
theorem RH{y:By}(h:Wb y):∀m,Wb (rep y m)
 | 0=>fun c hc=>by cases hc
 | m+1=>nO h (RH h m)
theorem Ip:∀(n:Nat) (w r:pY),settle n w=some r->∃j,j<=w.c∧r=⟨w.x++rep w.y j,w.y,w.z1,w.z2,w.c-j⟩∧r.c<=400
 | 0,w,r,h=>by rw[settle]at h;cases h
 | n+1,w,r,h=>by
  rw[settle]at h;split at h
  ·rename_i hc;split at h
   ·obtain⟨j,h1,h2,h3⟩:=Ip n _ r h;simp only at h1 h2;refine⟨j+1,by omega,?_,h3⟩;rw[h2,rep,append_assoc];congr 1;omega
   ·cases h
  ·rename_i hc;cases h;exact⟨0,Nat.zero_le _,by simp[rep],by omega⟩
structure Wt(v:View)(w:pY):Prop where
 part:∀n,n<=uO (R (aF v) (ak w.x++(rep (ak w.y) (n+w.c)++ak w.z1))) (R (aF v) (ak w.x++(rep (ak w.y) (n+w.c)++ak w.z2)))
 y0:w.y≠[]
 c4:w.c<=400
 wb:Wb w.x∧Wb w.y∧Wb w.z1∧Wb w.z2
theorem Uu(hv:VF v)(hk:KW v){x y:By}{o:aA}(h:xu v x y k=some o)(hx:(dJ (aF v) k 0 (ak x)).2=t)(hy:kd (aF v) (ak y) k=k)(ht:(dJ (aF v) k t (ak y)).2=t):∃z,v.k.words[k]?=some z∧Wb z∧(∀m,says o m=R (aF v) (ak x++(rep (ak y) m++ak z)))∧(y=[]->o.ro=[]):=by
 unfold xu at h;split at h
 ·cases h
 ·rename_i z hz;split at h
  ·rename_i hc;rw[mO hv x hc.2.2.2]at h;simp only[]at h;split at h
   ·rw[hx,mO hv y hc.2.2.2,mO hv z hv.pos]at h;simp only[]at h;injection h with h;obtain⟨w1,w2,-⟩:=hk.word k z hz;refine⟨z,hz,w1,fun m=>?_,fun e=>?_⟩
    ·rw[RG (aF v) hx hy ht w2 m,<-h];show (dJ (aF v) k 0 (ak x)).1++(rep (dJ (aF v) k t (ak y)).1 m++(dJ (aF v) 0 t (ak z)).1)=_;rw[oH]
    ·rw[<-h,e];rfl
   ·cases h
  ·cases h
theorem Nh(hv:VF v)(hk:KW v){x y:By}{at':Nat}{w:pY}(h:weigh v pairs x y at'=some (some w)){p0:Pair}(hp:pairs[at']?=some p)(z1:p0.s=0)(z2:p0.t=0)(l1:Lead v p0 (ak x) p)(l2:Lead v p (ak y) p)(wx:Wb x)(wy:Wb y):Wt v w:=by
 unfold weigh at h;rw[hp]at h;simp only[]at h;have hx1:(dJ (aF v) p.x 0 (ak x)).2=p.s:=by rw[<-l1.tx,z1]
 have hx2:(dJ (aF v) p.y 0 (ak x)).2=p.t:=by rw[<-l1.ty,z2]
 split at h
 ·rename_i one other h1 h2;obtain⟨za,a1,a2,a3,a4⟩:=Uu hv hk h1 hx1 l2.kx l2.tx;obtain⟨zb,b1,b2,b3,b4⟩:=Uu hv hk h2 hx2 l2.ky l2.ty;split at h
  ·split at h
   ·cases h
   ·cases h
   ·rename_i c hc;rw[a1,b1]at h;simp only[]at h;split at h
    ·cases h
    ·rename_i r hr;injection h with h;injection h with h;subst h;obtain⟨j,g1,g2,g3⟩:=Ip _ _ _ hr;simp only at g1 g2;rw[g2];refine⟨fun n=>?_,fun e=>?_,by rw[g2]at g3;exact g3,nO wx (RH wy j),wy,a2,b2⟩
     ·simp only[];have e1:∀z:By,ak (x++rep y j)++(rep (ak y) (n+(c-j))++ak z)=ak x++(rep (ak y) (n+c)++ak z):=fun z=>by
       rw[gQ,yw,append_assoc,<-append_assoc (rep (ak y) j),<-KF,show j+(n+(c-j))=n+c by omega]
      rw[e1,e1,<-a3,<-b3];exact Ym hc n
     ·simp only at e;unfold ahead' at hc;rw[a4 e,b4 e]at hc;simp at hc
  ·cases h
 ·cases h
theorem EQ{v:View}(hv:VF v)(hk:KW v){R:GG}(hg:GI v R.g)(hon:Qo R.g.steps R.on){found:List fH}(hpar:YU v R.g.pairs found){i here:Nat}{f:fH}(hf:found[i]?=some f)(hh:f.pair=here){w:pY}:∀(n m:Nat) (j:Int),up found m (i:Int)=j->fV v R found i here n j=some (some w)->Wt v w
 | 0,m,j,_,h=>by rw[fV]at h;cases h
 | n+1,m,j,hup,h=>by
  rw[fV]at h;split at h
  ·split at h
   ·rename_i tt on round en h1 h2;split at h
    ·obtain⟨f1,u,p0,p,b1,b2,b3,b4,b5,b6,b7⟩:=uo hpar _ i [] tt h1;rw[hf]at b1;cases b1;rw[append_nil]at b3;subst b3;rw[hh]at b2;obtain⟨q,c1,c2,c3,c4,c5⟩:=Io hg hon (p0:=p) _ [] [] here on round en rfl (fun c hc=>by cases hc) ⟨p,b2,Lead.refl _ _,fun k m hk=>by simp at hk⟩ h2;exact Nh hv hk h c1 b4 b5 (by rw[gQ];exact b6.trans c2) c3 (nO b7 c4) c5
    ·cases h
   ·cases h
  ·rename_i hneg;split at h
   ·cases h
   ·rename_i g hgj;obtain⟨jn,hjn⟩:∃jn:Nat,j=(jn:Int):=⟨j.toNat,by omega⟩;subst hjn;rw[Int.toNat_natCast]at hgj;split at h
    ·rename_i aEL;split at h
     ·rename_i tt round h1 h2;obtain⟨f1,u,p0,p,b1,b2,b3,b4,b5,b6,b7⟩:=uo hpar _ jn [] tt h1;rw[hgj]at b1;cases b1;rw[append_nil]at b3;subst b3;obtain⟨f2,u2,q,d1,d2,d3,d4,d5⟩:=EO hpar hgj b2 _ m i [] round hup h2;rw[hf]at d1;cases d1;rw[append_nil]at d3;subst d3;rw[aEL]at b2;rw[hh,b2]at d2;cases d2;exact Nh hv hk h b2 b4 b5 b6 d4 b7 d5
     ·cases h
    ·refine EQ hv hk hg hon hpar hf hh n (m+1) g.fr ?_ h;rw[show m+1=m+1 from rfl,Uw,hup,aU hneg,Int.toNat_natCast,hgj]
where
 Uw:∀{found:List fH} {m:Nat} {i:Int},up found (m+1) i=if up found m i<0 then up found m i else match found[(up found m i).toNat]? with | none=>up found m i | some f=>f.fr
 | found,0,i=>by rw[up,up];split <;> rfl
 | found,m+1,i=>by
  rw[up];split
  ·rename_i h;rw[up,aP h,aP h]
  ·rename_i h;split
   ·rename_i e;rw[up,aU h,e];simp only[];rw[aU h,e]
   ·rename_i f e;rw[Uw (found:=found) (m:=m) (i:=f.fr),up,aU h,e]
end Th
end Go.Proofs.YtoebidlghdidoaaGreatDoor
