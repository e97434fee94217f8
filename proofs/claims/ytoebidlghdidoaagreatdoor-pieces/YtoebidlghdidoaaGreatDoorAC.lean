import Derived.Test.YtoebidlghdidoaaGreatDoorAB
namespace Go.Proofs.YtoebidlghdidoaaGreatDoor
open List
namespace Th
open aI (R4 common num lG)
open M2 (View aW qU Pair Stp fH pY aA aT ahead' bf Af bM silent bP Apart aK bJ jk mM xH jA jS oW set2 iL)
open M3 (GG Gr eF bY settle xu weigh fV judge iU y8 jr uZ gJ grow kT graph kS IX jB find follow jw uY fU Qw dD placeOf oZ jy kR lead lH)
variable {v:View} {found f2:List fH} {last l2 r nums:List Nat} {l i n k t:Nat} {w:pY} {b b':aK} {s:bP} {E:By} {a:Apart} {met:List aK} {aC:List iL} {p:Pair} {pairs:List Pair}
theorem yB{steps:List Stp}(on:List Int)(round:Nat):∀(ss:List Stp) (i:Nat) (ow:List Int) (far:List Nat) (gr:Bool) (KH:List Int) (far':List Nat) (Me:Bool),ss=steps.drop i->Qo steps ow->bf on round ss i ow far gr=some (KH,far',Me)->Qo steps KH
 | [],i,ow,far,gr,KH,far',Me,_,h,e=>by rw[bf]at e;cases e;exact h
 | s::ss,i,ow,far,gr,KH,far',Me,hs,h,e=>by
  have hi:i<steps.length:=by
   have:=congrArg length hs;rw[length_drop]at this;simp at this;omega
  rw[kJ hi]at hs;injection hs with hs1 hs2;rw[bf]at e;simp only[]at e;split at e
  ·split at e
   ·refine yB on round ss (i+1) _ _ _ KH far' Me hs2 (fun k o hk ho=>?_) e;rw[getElem?_set]at hk;split at hk
    ·rename_i hkk;split at hk
     ·injection hk with hk;subst hk;exact⟨s,by rw[Int.toNat_natCast,bG hi,hs1],hkk⟩
     ·cases hk
    ·exact h k o hk ho
   ·exact yB on round ss (i+1) _ _ _ KH far' Me hs2 h e
  ·cases e
theorem Ux{steps:List Stp}(on:List Int):∀(f round:Nat) (ow:List Int) (far:List Nat) (r:List Int),Qo steps ow->Af on steps f round ow far=some r->Qo steps r
 | 0,_,_,_,r,_,e=>by rw[Af]at e;cases e
 | f+1,round,ow,far,r,h,e=>by
  rw[Af]at e;split at e
  ·cases e
  ·rename_i KH far' Me hr;have h':=yB on round steps 0 ow far false KH far' Me rfl h hr;split at e
   ·exact Ux on f (round+1) KH far' r h' e
   ·cases e;exact h'
theorem aBt{steps:List Stp}{np:Nat}{on r:List Int}(e:IX np steps on=some r):Qo steps r:=by
 unfold IX at e;refine Ux on _ _ _ _ r (fun k o hk ho=>?_) e;rw[getElem?_replicate]at hk;split at hk
 ·cases hk;omega
 ·cases hk
theorem Iq{steps:List Stp}{np:Nat}:∀(f:Nat) (before:Option Nat) (count:Nat) (on r:List Int),(before=none∨Qo steps on)->jB np steps f before count on=some r->Qo steps r
 | 0,_,_,_,r,_,e=>by rw[jB]at e;cases e
 | f+1,before,count,on,r,h,e=>by
  rw[jB]at e;split at e
  ·rename_i hb;cases e;rcases h with h | h
   ·rw[h]at hb;cases hb
   ·exact h
  ·split at e
   ·cases e
   ·rename_i o ho;split at e
    ·exact Iq f _ _ o r (Or.inr (aBt ho)) e
    ·cases e
structure aB(first:List Nat)(steps:List Stp):Prop where
 le:∀a∈first,a<=steps.length
 own:∀k a b,first[k]?=some a->(first++[steps.length])[k+1]?=some b->∀s∈(steps.take b).drop a,s.fr=k
theorem aJd{v:View}(hv:VF v):∀(f i:Nat) (g:Gr) (first:List Nat) (g2:Gr) (eG:List Nat),first.length=i->GI v g->aB first g.steps->grow v f i g first=some (g2,eG)->GI v g2∧aB eG g2.steps∧∃more,g2.pairs=g.pairs++more
 | 0,i,g,first,g2,eG,_,_,_,e=>by rw[grow]at e;cases e
 | f+1,i,g,first,g2,eG,hi,h,hf,e=>by
  rw[grow]at e;split at e
  ·cases e;exact⟨h,hf,[],by simp⟩
  ·split at e
   ·split at e
    ·cases e
    ·rename_i g3 hg;obtain⟨k1,k2⟩:=um hv 4 g g3 (dH _) h hg;obtain⟨m1,em⟩:=k2.pairs;obtain⟨ss,es,hss⟩:=k2.steps;have hfs:aB (first++[g.steps.length]) g3.steps:=by
      refine⟨fun a ha=>?_,fun k a b ha hb=>?_⟩
      ·rw[es,length_append];rcases mem_append.1 ha with h1 | h1
       ·have:=hf.le a h1;omega
       ·simp at h1;omega
      ·rcases iK k first.length with hlt | hge
       ·rw[jG hlt]at ha;rw[jG (by rw[length_append];simp;omega)]at hb;have hbl:b<=g.steps.length:=by
         rcases mem_append.1 (iI hb)with h1 | h1
         ·exact hf.le b h1
         ·simp at h1;omega
        rw[es,take_append_of_le_length hbl];exact hf.own k a b ha hb
       ·have hk:k=first.length:=by
         have:=(bU ha).1;simp at this;omega
        subst hk;rw[mW (dH _),Nat.sub_self]at ha;simp at ha;subst ha;rw[mW (by rw[length_append];simp),length_append]at hb;simp at hb;subst hb;rw[take_length,es,drop_left];intro s hs;rw[hss s hs,hi]
     obtain⟨j1,j2,m2,em2⟩:=aJd hv f (i+1) g3 _ g2 eG (by simp[hi]) k1 hfs e;exact⟨j1,j2,m1++m2,by rw[em2,em,append_assoc]⟩
   ·cases e
structure GOK(v:View)(R:GG):Prop where
 gi:GI v R.g
 on:Qo R.g.steps R.on
 own:∀k a b,R.first[k]?=some a->R.first[k+1]?=some b->∀s∈(R.g.steps.take b).drop a,s.fr=k
 zero:∀k p,k<R.st->R.g.pairs[k]?=some p->p.s=0∧p.t=0
theorem Nj(hv:VF v){R:GG}(h:graph v=some R):GOK v R:=by
 unfold graph at h;split at h
 ·cases h
 ·rename_i g hg;split at h
  ·cases h
  ·rename_i g2 first hgr;split at h
   ·split at h
    ·cases h
    ·rename_i on hon;cases h;have h0:GI v ⟨[],replicate ((v.k.ahead.length*4)*(v.k.ahead.length*4)) 0,[]⟩:=by
      refine⟨⟨(fun p hp=>by cases hp),fun k u hu=>?_⟩,(fun s hs=>by cases hs)⟩;rw[getElem?_replicate]at hu;split at hu
      ·cases hu
      ·cases hu
     obtain⟨k1,k2,k3⟩:=EM v.k.ahead.length 0 _ g (by omega) h0 (fun p hp=>by cases hp) hg;obtain⟨j1,j2,m,em⟩:=aJd hv 10000 0 g [] g2 first rfl k1 ⟨(fun a ha=>by cases ha),(fun k a b ha=>by simp at ha)⟩ hgr;refine⟨j1,Iq _ none _ _ on (Or.inl rfl) hon,fun k a b ha hb=>?_,fun k p hk hp=>?_⟩
     ·simp only at ha hb;rcases iK k first.length with hlt | hge
      ·rw[jG hlt]at ha;exact j2.own k a b ha hb
      ·have:=(bU hb).1;simp at this;omega
     ·simp only at hk hp;rw[em,jG hk]at hp;exact k3 p (iI hp)
   ·cases h
section
variable {v:View} {R:GG}
theorem Uy(hg:GOK v R)(h:YU v R.g.pairs found){pair:Nat}{h0 h1:By}{fr:Int}(hl:l<4)(hq:∃q,R.g.pairs[pair]?=some q∧((fr=-1∧q.s=0∧q.t=0)∨∃(j:Nat) (g:fH) (p:Pair),fr=(j:Int)∧found[j]?=some g∧R.g.pairs[g.pair]?=some p∧Lead v p [l] q))(e:uZ R.on found last pair h0 h1 fr l=some (f2,l2)):YU v R.g.pairs f2∧∃more,f2=found++more:=by
 have _:=hg;unfold uZ at e;split at e
 ·split at e
  ·cases e;exact⟨h,[],by simp⟩
  ·split at e
   ·split at e
    ·cases e
    ·cases e;exact⟨h,[],by simp⟩
    ·cases e;refine⟨fun i f hi=>?_,_,rfl⟩;rcases iK i found.length with hlt | hge
     ·rw[jG hlt]at hi;obtain⟨a1,q,a2,a3⟩:=h i f hi;refine⟨a1,q,a2,?_⟩;rcases a3 with a3 | ⟨j,g,p,b1,b2,b3,b4⟩
      ·exact Or.inl a3
      ·exact Or.inr ⟨j,g,p,b1,b2,by rw[jG (bU b3).1];exact b3,b4⟩
     ·rw[mW hge]at hi;have hi0:i-found.length=0:=by
       have:=(bU hi).1;simp at this;omega
      rw[hi0]at hi;simp at hi;subst hi;obtain⟨q,c1,c2⟩:=hq;refine⟨hl,q,c1,?_⟩;rcases c2 with c2 | ⟨j,g,p,b1,b2,b3,b4⟩
      ·exact Or.inl c2
      ·have hj:=(bU b2).1;exact Or.inr ⟨j,g,p,b1,by omega,by rw[jG hj];exact b2,b3,b4⟩
   ·cases e
 ·cases e
theorem yC(hg:GOK v R):∀(n i:Nat) (found:List fH) (last:List Nat) (f2:List fH) (l2:List Nat),i+n=R.st->YU v R.g.pairs found->gJ R.on n i found last=some (f2,l2)->YU v R.g.pairs f2
 | 0,i,found,last,f2,l2,_,h,e=>by rw[gJ]at e;cases e;exact h
 | n+1,i,found,last,f2,l2,hi,h,e=>by
  rw[gJ]at e;split at e
  ·cases e
  ·rename_i f3 l3 ha;by_cases hp:∃q,R.g.pairs[i]?=some q
   ·obtain⟨q,hq⟩:=hp;obtain⟨k1,-⟩:=Uy hg h (by omega) ⟨q,hq,Or.inl ⟨rfl,hg.zero i q (by omega) hq⟩⟩ ha;exact yC hg n (i+1) f3 l3 f2 l2 (by omega) k1 e
   ·have hf3:f3=found:=by
     unfold uZ at ha;split at ha
     ·split at ha
      ·cases ha;rfl
      ·rename_i o la ho hla hneg;exfalso;obtain⟨s,hs,hfr⟩:=hg.on i o ho (by omega);obtain⟨p,q,a1,-,-⟩:=hg.gi.st s (iI hs);rw[hfr]at a1;exact hp ⟨p,a1⟩
     ·cases ha
    rw[hf3]at e;exact yC hg n (i+1) found l3 f2 l2 (by omega) h e
theorem Ir(hg:GOK v R){i:Nat}{f:fH}{p:Pair}(hp:R.g.pairs[f.pair]?=some p):∀(bs:List Stp) (found:List fH) (last:List Nat) (h0 h1:By) (f2:List fH) (l2:List Nat),(∀s∈bs,s∈R.g.steps∧s.fr=f.pair)->found[i]?=some f->YU v R.g.pairs found->jr R.on i h0 h1 bs found last=some (f2,l2)->YU v R.g.pairs f2
 | [],found,last,h0,h1,f2,l2,_,_,h,e=>by rw[jr]at e;cases e;exact h
 | b::bs,found,last,h0,h1,f2,l2,hb,hf,h,e=>by
  rw[jr]at e;split at e
  ·split at e
   ·cases e
   ·rename_i f3 l3 ha;obtain⟨b1,b2⟩:=hb b mem_cons_self;obtain⟨p',q,a1,a2,a3⟩:=hg.gi.st b b1;rw[b2,hp]at a1;cases a1;obtain⟨k1,more,em⟩:=Uy hg h a3.l4 ⟨q,a2,Or.inr ⟨i,f,p,rfl,hf,hp,a3.lead⟩⟩ ha;refine Ir hg hp bs f3 l3 h0 h1 f2 l2 (fun s hs=>hb s (mem_cons_of_mem _ hs)) ?_ k1 e;rw[em,jG (bU hf).1];exact hf
  ·cases e
theorem aBu(hg:GOK v R)(h:YU v R.g.pairs found)(e:y8 R i found last=some (f2,l2)):YU v R.g.pairs f2:=by
 unfold y8 at e;split at e
 ·cases e
 ·rename_i f hf;split at e
  ·rename_i a b ha hb;split at e
   ·obtain⟨-,p,hp,-⟩:=h i f hf;refine Ir hg hp _ found last f.h0 f.h1 f2 l2 (fun s hs=>⟨?_,hg.own f.pair a b ha hb s hs⟩) hf h e;exact mem_of_mem_take (mem_of_mem_drop hs)
   ·cases e
  ·cases e
theorem Iu(hv:VF v)(hk:KW v)(hg:GOK v R){w:pY}:∀(n i:Nat) (found:List fH) (last:List Nat),YU v R.g.pairs found->iU v R n i found last=some (some w)->Wt v w
 | 0,i,found,last,_,e=>by rw[iU]at e;cases e
 | n+1,i,found,last,h,e=>by
  rw[iU]at e;split at e
  ·split at e
   ·cases e
   ·rename_i x hx;cases e;unfold judge at hx;split at hx
    ·cases hx
    ·rename_i f hf;refine EQ hv hk hg.gi hg.on h hf rfl _ 1 f.fr ?_ hx;rw[up,aU (by omega),Int.toNat_natCast,hf];rfl
   ·split at e
    ·cases e
    ·rename_i f2 l2 hgo;exact Iu hv hk hg n (i+1) f2 l2 (aBu hg h hgo) e
  ·cases e
end
theorem find_ok(hv:VF v)(hk:KW v)(h:find v=some (some w)):Wt v w:=by
 unfold find at h;split at h
 ·cases h
 ·rename_i R hR;have hg:=Nj hv hR;split at h
  ·split at h
   ·cases h
   ·rename_i found last hb;refine Iu hv hk hg _ 0 found last (yC hg R.st 0 [] _ found last (by omega) (fun i f hi=>by simp at hi) hb) h
  ·cases h
theorem yx{α:Type}(l:List α)(k i:Nat)(x d:α)(hk:k<l.length):(l.set k x).getD i d=if k=i then x else l.getD i d:=by
 rw[fM,getElem?_set,fM];by_cases h:k=i
 ·subst h;simp[hk]
 ·simp[h]
theorem uq:∀(ws:List By) (a:By),(jA a ws <+: a)∧(∀w∈ws,jA a ws <+: w)∧(∀T:By,T <+: a->(∀w∈ws,T <+: w)->T <+: jA a ws)
 | [],a=>⟨uf _,(fun _ h=>by cases h),fun T h _=>h⟩
 | w::ws,a=>by
  obtain⟨h1,h2,h3⟩:=uq ws (a.take (common a w));have ha:a.take (common a w) <+: a:=take_prefix _ _;refine⟨h1.trans ha,fun x hx=>?_,fun T hT hall=>?_⟩
  ·rcases mem_cons.1 hx with rfl | hx
   ·exact h1.trans (xw a x)
   ·exact h2 x hx
  ·exact h3 T (ug T a w hT (hall w mem_cons_self)) fun x hx=>hall x (mem_cons_of_mem _ hx)
theorem KL{ws:List By}(h:ws≠[]):(∀w∈ws,jS ws <+: w)∧(∀T:By,(∀w∈ws,T <+: w)->T <+: jS ws):=by
 match ws,h with
 | w::ws,_=>
  obtain⟨-,h2,h3⟩:=uq (w::ws) w;exact⟨h2,fun T hT=>h3 T (hT w mem_cons_self) hT⟩
theorem Bf(m:Nat):∀(n k:Nat) (h:List By),k+n<=h.length->(∀i,k<=i->i<k+n->m<=(h.getD i []).length)->∃h',oW m n k h=some h'∧h'.length=h.length∧∀i,h'.getD i []=if k<=i∧i<k+n then (h.getD i []).drop m else h.getD i []
 | 0,k,h,_,_=>⟨h,rfl,rfl,fun i=>by rw[aU (by omega)]⟩
 | n+1,k,h,hl,hm=>by
  have hk:k<h.length:=by omega
  have e:h.getD k []=h[k]:=by rw[fM,bG hk];rfl
  rw[oW,bG hk];simp only[];have hmk:=hm k (dH _) (by omega);rw[e]at hmk;rw[aU (by omega)];have aEM:∀i,(h.set k ((h[k]).drop m)).getD i []=if k=i then (h[k]).drop m else h.getD i []:=fun i=>yx h k i _ _ hk
  obtain⟨h',e1,e2,e3⟩:=Bf m n (k+1) (h.set k ((h[k]).drop m)) (by rw[length_set];omega) (fun i i1 i2=>by
   rw[aEM,aU (by omega)]
   exact hm i (by omega) (by omega))
  refine⟨h',e1,by rw[e2,length_set],fun i=>?_⟩;rw[e3 i,aEM];by_cases hki:k=i
  ·subst hki;rw[aU (by omega),aP rfl,aP (by omega),e]
  ·rw[aU hki];by_cases hc:k+1<=i∧i<k+1+n
   ·rw[aP hc,aP (by omega)]
   ·rw[aU hc,aU (by omega)]
def dG(b:aK)(k:Nat):By:=b.held.getD k []
def uP(b:aK)(k:Nat):Nat:=b.tc.getD k 0
structure BSh(n:Nat)(b:aK):Prop where
 tl:b.tc.length=24
 hl:b.held.length=24
 tz:∀k,n<=k->uP b k=0
 hz:∀k,n<=k->dG b k=[]
theorem RJ(h:BSh n b)(h':BSh n b')(he:∀k,k<n->dG b k=dG b' k∧uP b k=uP b' k):b.tc=b'.tc∧b.held=b'.held:=by
 have hh:∀k,dG b k=dG b' k∧uP b k=uP b' k:=fun k=>by
  rcases iK k n with hk | hk
  ·exact he k hk
  ·exact⟨by rw[h.hz k hk,h'.hz k hk],by rw[h.tz k hk,h'.tz k hk]⟩
 constructor
 ·apply ext_getElem (by rw[h.tl,h'.tl]);intro i h1 h2;have:=(hh i).2;unfold uP at this
  rwa [fM,bG h1,fM,bG h2]at this
 ·apply ext_getElem (by rw[h.hl,h'.hl]);intro i h1 h2;have:=(hh i).1;unfold dG at this
  rwa [fM,bG h1,fM,bG h2]at this
theorem Uz(k:Nat):dG bJ k=[]:=by
 unfold dG bJ;simp only[];rw[fM,getElem?_replicate];split <;> rfl
theorem aCK(k:Nat):uP bJ k=0:=by
 unfold uP bJ;simp only[];rw[fM,getElem?_replicate];split <;> rfl
theorem zA{n:Nat}{s:bP}(hsh:Sh n s)(hn:n<=24):∀(rs:bP) (k:Nat) (b:aK),rs=s.drop k->b.tc.length=24->b.held.length=24->(∀i,uP b i=0) ->∃b',jk rs k b=some b'∧b'.tc.length=24∧b'.held.length=24∧(∀i,uP b' i=0)∧∀i,dG b' i=if k<=i∧i<n then jT s i 0 else dG b i
 | [],k,b,hr,h1,h2,h3=>⟨b,rfl,h1,h2,h3,fun i=>by
   have:=congrArg length hr
   rw[length_drop,hsh.1]at this
   simp at this
   rw[aU (by omega)]⟩
 | r::rs,k,b,hr,h1,h2,h3=>by
  have hk:k<s.length:=by
   have:=congrArg length hr;rw[length_drop]at this;simp at this;omega
  rw[kJ hk]at hr;injection hr with hr1 hr2;have h4:0<(s[k]).length:=by rw[hsh.2 _ (getElem_mem hk)];omega
  have e0:r[0]?=some (jT s k 0):=by rw[hr1,RD hk h4];exact bG h4
  have hkn:k<n:=by rw[<-hsh.1];exact hk
  rw[jk,e0];simp only[];rw[aP (by omega)];obtain⟨b',e1,e2,e3,e4,e5⟩:=zA hsh hn rs (k+1) { b with held:=b.held.set k (jT s k 0) } hr2 h1 (by simp[h2]) h3;refine⟨b',e1,e2,e3,e4,fun i=>?_⟩;rw[e5 i];have e6:dG { b with held:=b.held.set k (jT s k 0) } i=if k=i then jT s k 0 else dG b i:=yx _ _ _ _ _ (by omega)
  rw[e6];by_cases hc:k+1<=i∧i<n
  ·rw[aP hc,aP (by omega)]
  ·rw[aU hc];by_cases hki:k=i
   ·subst hki;rw[aP rfl,aP (by omega)]
   ·rw[aU hki,aU (by omega)]
theorem ER{n:Nat}{a:Apart}(h:YT n a){k t:Nat}(hk:k<n)(ht:t<4):∀f x,x<=t->t<x+f->mM a k t f x=some (lI (AX a) k t f x)
 | 0,x,h1,h2=>by omega
 | f+1,x,h1,h2=>by
  rw[mM,lI];by_cases hc:t<=x
  ·rw[aP hc,aU (fun e:x<t∧_=>by omega)]
  ·rw[aU hc,Jz h hk (by omega) ht];simp only[]
   cases hb:AX a k x t with
   | true=>
    rw[aP rfl,aP ⟨by omega,rfl⟩];exact ER h hk ht f (x+1) (by omega) (by omega)
   | false=>rw[aU (by simp),aU (fun e=>by cases e.2)]
theorem KN(h:Sh n s)(hk:k<n)(ht:t<4):(jT s k t).length<=tot s:=by
 have:=NY h hk ht [];simp at this;omega
theorem Yn(hv:VF v)(h:Sh v.k.ahead.length s)(hk:k<v.k.ahead.length)(ht:t<4):(mv (aF v) (jT s) k t l).length<=4+tot s:=by
 unfold mv;rw[length_drop,length_append];have h1:((aF v).st ((aF v).A k l) t l).1.length<=4:=l7 hv _ _ _;have h2:=KN h hk ((gK hv).left ((aF v).A k l) t l ht);omega
structure CB(v:View)(s:bP)(a:Apart)(r:List Nat)(E:By)(b:aK):Prop where
 sh:BSh v.k.ahead.length b
 ok:qW (aF v) (jT s) (AX a) r E (dG b) (uP b)
structure OK(v:View)(s:bP)(a:Apart):Prop where
 vf:VF v
 has:Has v
 sh:Sh v.k.ahead.length s
 su:iM (aF v) (jT s)
 ap:NS (aF v) (jT s) (AX a)
 sh3:YT v.k.ahead.length a
 tt:tot s<=9000
section
variable {v:View} {s:bP} {a:Apart}
theorem Yo(o:OK v s a):∃b,jk s 0 bJ=some b∧CB v s a [] [] b∧∀k,(dG b k).length<=9000:=by
 obtain⟨b,e1,e2,e3,e4,e5⟩:=zA o.sh o.vf.le s 0 bJ rfl rfl rfl aCK;have e5':∀i,dG b i=if i<v.k.ahead.length then jT s i 0 else []:=fun i=>by
  rw[e5 i,Uz];by_cases h:i<v.k.ahead.length
  ·rw[aP h,aP ⟨Nat.zero_le _,h⟩]
  ·rw[aU h,aU (fun e=>h e.2)]
 refine⟨b,e1,⟨⟨e2,e3,fun k _=>e4 k,fun k hk=>by rw[e5',aU (by omega)]⟩,?_⟩,fun k=>?_⟩
 ·have h:=qW.start (v:=aF v) (su:=jT s) (ap:=AX a) (gK o.vf) o.su (fun k _=>rfl);refine⟨fun k hk=>?_,fun k hk=>by rw[e4];omega,fun k hk=>by rw[e4];exact h.alike k hk,fun k hk=>by rw[e4];rfl,fun T hT=>h.bare T fun k hk=>?_⟩
  ·rw[e5',aP (show k<v.k.ahead.length from hk)];exact h.sum k hk
  ·have:=hT k hk
   rwa [e5',aP (show k<v.k.ahead.length from hk)]at this
 ·rw[e5'];split
  ·rename_i hk;exact Nat.le_trans (KN o.sh hk (by omega)) o.tt
  ·simp
theorem xM(o:OK v s a){b:aK}{l:Nat}(hl:l<4)(hbt:b.tc.length=24)(hbh:b.held.length=24)(htc:∀k,k<v.k.ahead.length->uP b k<4)(hlen:∀k,(dG b k).length<=100000):∀(rs:List R4) (k:Nat) (m:aK),rs=v.k.ahead.drop k->m.tc.length=24->m.held.length=24 ->∃m',jw v s a b l rs k m=some m'∧m'.tc.length=24∧m'.held.length=24∧(∀i,uP m' i=if k<=i∧i<v.k.ahead.length then lst (AX a) i (aW v ((aF v).A i l) (uP b ((aF v).A i l)) l).2 else uP m i) ∧∀i,dG m' i=if k<=i∧i<v.k.ahead.length then dG b ((aF v).A i l)++mv (aF v) (jT s) i (uP b ((aF v).A i l)) l else dG m i
 | [],k,m,hr,h1,h2=>by
  have:=congrArg length hr;rw[length_drop]at this;simp at this;exact⟨m,rfl,h1,h2,fun i=>by rw[aU (by omega)],fun i=>by rw[aU (by omega)]⟩
 | r::rs,k,m,hr,h1,h2=>by
  have hk:k<v.k.ahead.length:=by
   have:=congrArg length hr;rw[length_drop]at this;simp at this;omega
  rw[kJ hk]at hr;injection hr with hr1 hr2;have er:r=v.k.ahead.getD k ⟨0,0,0,0⟩:=by rw[hr1,fM,bG hk];rfl
  have hle:=o.vf.le;have hA:(aF v).A k l<v.k.ahead.length:=(gK o.vf).Jy k l hk hl;have ht:=htc _ hA;have g1:b.tc[(aF v).A k l]?=some (uP b ((aF v).A k l)):=by
   unfold uP;rw[fM,bG (by omega)];rfl
  have g2:b.held[(aF v).A k l]?=some (dG b ((aF v).A k l)):=by
   unfold dG;rw[fM,bG (by omega)];rfl
  rw[jw,er,uj hl];simp only[];have g1':b.tc[kz (v.k.ahead.getD k ⟨0,0,0,0⟩) l]?=_:=g1;have g2':b.held[kz (v.k.ahead.getD k ⟨0,0,0,0⟩) l]?=_:=g2;rw[g1',g2'];simp only[];rw[aP ⟨ht,hlen _⟩];have g3:=EC o.vf o.sh o.su o.has hk hl ht;have g3':M2.nS v s (kz (v.k.ahead.getD k ⟨0,0,0,0⟩) l) (uP b ((aF v).A k l)) l k=_:=g3;rw[g3'];simp only[];have hleft:=gX o.vf ((aF v).A k l) (uP b ((aF v).A k l)) l ht;rw[ER o.sh3 hk hleft 10 0 (by omega) (by omega)];simp only[];have hml:=Yn o.vf o.sh (l:=l) hk ht;have htt:=o.tt;rw[aP ⟨by omega,by omega⟩];obtain⟨m',e1,e2,e3,e4,e5⟩:=xM o hl hbt hbh htc hlen rs (k+1) ⟨m.tc.set k (lI (AX a) k (aW v ((aF v).A k l) (uP b ((aF v).A k l)) l).2 10 0),m.held.set k (dG b ((aF v).A k l)++mv (aF v) (jT s) k (uP b ((aF v).A k l)) l)⟩ hr2 (by simp[h1]) (by simp[h2]);refine⟨m',e1,e2,e3,fun i=>?_,fun i=>?_⟩
  ·rw[e4 i];have e6:uP ⟨m.tc.set k (lI (AX a) k (aW v ((aF v).A k l) (uP b ((aF v).A k l)) l).2 10 0),m.held.set k (dG b ((aF v).A k l)++mv (aF v) (jT s) k (uP b ((aF v).A k l)) l)⟩ i=if k=i then _ else uP m i:=yx _ _ _ _ _ (by omega)
   rw[e6];by_cases hc:k+1<=i∧i<v.k.ahead.length
   ·rw[aP hc,aP (by omega)]
   ·rw[aU hc];by_cases hki:k=i
    ·subst hki;rw[aP rfl,aP (by omega)];rfl
    ·rw[aU hki,aU (by omega)]
  ·rw[e5 i];have e6:dG ⟨m.tc.set k (lI (AX a) k (aW v ((aF v).A k l) (uP b ((aF v).A k l)) l).2 10 0),m.held.set k (dG b ((aF v).A k l)++mv (aF v) (jT s) k (uP b ((aF v).A k l)) l)⟩ i=if k=i then _ else dG m i:=yx _ _ _ _ _ (by omega)
   rw[e6];by_cases hc:k+1<=i∧i<v.k.ahead.length
   ·rw[aP hc,aP (by omega)]
   ·rw[aU hc];by_cases hki:k=i
    ·subst hki;rw[aP rfl,aP (by omega)]
    ·rw[aU hki,aU (by omega)]
theorem Iw(o:OK v s a)(h:CB v s a r E b){B:Nat}(hl:l<4)(hB:B<=90000)(hlen:∀k,(dG b k).length<=B):∃said b',follow v s a b l=some (said,b')∧CB v s a (l::r) (E++said) b'∧(∀k,(dG b' k).length<=B+9004)∧said.length<=B+9004:=by
 obtain⟨m,e1,e2,e3,e4,e5⟩:=xM o hl h.sh.tl h.sh.hl h.ok.tc4 (fun k=>Nat.le_trans (hlen k) (by omega)) v.k.ahead 0 bJ rfl rfl rfl;have hle:=o.vf.le;have hpos:=o.vf.pos;have htt:=o.tt;have e5':∀i,dG m i=if i<v.k.ahead.length then dG b ((aF v).A i l)++mv (aF v) (jT s) i (uP b ((aF v).A i l)) l else []:=fun i=>by
  rw[e5 i,Uz];by_cases hi:i<v.k.ahead.length
  ·rw[aP hi,aP ⟨Nat.zero_le _,hi⟩]
  ·rw[aU hi,aU (fun e=>hi e.2)]
 have hml:∀i,(dG m i).length<=B+9004:=fun i=>by
  rw[e5' i];split
  ·rename_i hi;have hA:(aF v).A i l<v.k.ahead.length:=(gK o.vf).Jy i l hi hl;rw[length_append];have h1:=hlen ((aF v).A i l);have h2:=Yn o.vf o.sh (l:=l) hi (h.ok.tc4 _ hA);omega
  ·simp
 have hsl:=o.sh.1;have htk:∀w,w∈m.held.take s.length↔∃k,k<v.k.ahead.length∧w=dG m k:=fun w=>by
  rw[hsl];constructor
  ·intro hw;obtain⟨i,hi,he⟩:=mem_iff_getElem.1 hw;rw[length_take]at hi;rw[getElem_take]at he;refine⟨i,by omega,?_⟩;unfold dG;rw[fM,bG (by omega),<-he];rfl
  ·rintro⟨k,hk,rfl⟩;refine mem_iff_getElem.2 ⟨k,by rw[length_take];omega,?_⟩;rw[getElem_take];unfold dG;rw[fM,bG (by omega)];rfl
 have hne:m.held.take s.length≠[]:=fun e=>by
  have:=congrArg length e;rw[length_take,hsl,e3]at this;have h0:([]:List By).length=0:=rfl;omega
 obtain⟨c1,c2⟩:=KL hne;have c1':=fun k (hk:k<v.k.ahead.length)=>c1 _ ((htk _).2 ⟨k,hk,rfl⟩)
 obtain⟨h',d1,d2,d3⟩:=Bf (jS (m.held.take s.length)).length s.length 0 m.held (by omega) (fun i _ hi=>(c1' i (by omega)).length_le);unfold follow;rw[e1];simp only[];have hall:(m.held.all fun x=>decide (x.length<=1000000))=true:=by
  rw[all_eq_true];intro x hx;obtain⟨i,hi,he⟩:=mem_iff_getElem.1 hx;have:=hml i;unfold dG at this;rw[fM,bG hi]at this;rw[<-he];exact decide_eq_true (Nat.le_trans this (by omega))
 rw[hall];simp only[Bool.not_true,Bool.false_eq_true,if_false];rw[d1];simp only[];have d3':∀i,h'.getD i []=if i<v.k.ahead.length then (dG b ((aF v).A i l)++mv (aF v) (jT s) i (uP b ((aF v).A i l)) l).drop (jS (m.held.take s.length)).length else []:=fun i=>by
  rw[d3 i];have:m.held.getD i []=dG m i:=rfl;rw[this,e5' i];by_cases hi:i<v.k.ahead.length
  ·rw[aP hi,aP (by omega),aP hi]
  ·rw[aU (by omega),aU hi,aU hi]
 have hsaid:=Nat.le_trans (c1' 0 hpos).length_le (hml 0);refine⟨_,_,rfl,⟨⟨e2,by rw[d2];exact e3,fun k hk=>?_,fun k hk=>?_⟩,?_⟩,fun k=>?_,hsaid⟩
 ·show uP m k=0;rw[e4 k,aU (by omega),aCK]
 ·show h'.getD k []=[];rw[d3',aU (by omega)]
 ·have key:=qW.next (gK o.vf) o.su o.ap o.has h.ok hl (said:=jS (m.held.take s.length)) (fun k hk=>by
   have:=c1' k hk
   rwa [e5',aP (show k<v.k.ahead.length from hk)]at this) (fun T hT=>c2 T fun w hw=>by
   obtain⟨k,hk,rfl⟩:=(htk w).1 hw
   rw[e5',aP hk]
   exact hT k hk)
  have et:∀k,k<v.k.ahead.length->uP ({ m with held:=h' }:aK) k=lst (AX a) k ((aF v).st ((aF v).A k l) (uP b ((aF v).A k l)) l).2:=fun k hk=>by
   show uP m k=_;rw[e4 k,aP ⟨Nat.zero_le _,hk⟩];rfl
  have eh:∀k,k<v.k.ahead.length->dG ({ m with held:=h' }:aK) k=(dG b ((aF v).A k l)++mv (aF v) (jT s) k (uP b ((aF v).A k l)) l).drop (jS (m.held.take s.length)).length:=fun k hk=>by
   show h'.getD k []=_;rw[d3' k,aP hk]
  refine⟨fun k hk=>by rw[eh k hk];exact key.sum k hk,fun k hk=>by rw[et k hk];exact key.tc4 k hk,fun k hk=>by rw[et k hk];exact key.alike k hk,fun k hk=>by rw[et k hk];exact key.least k hk,fun T hT=>key.bare T fun k hk=>by
   have:=hT k hk
   rwa [eh k hk]at this⟩
 ·show (h'.getD k []).length<=_;rw[d3' k];split
  ·rename_i hi;rw[length_drop];have:=hml k;rw[e5' k,aP hi]at this;omega
  ·simp
end
theorem Yp{v:View}(hv:VF v):∀(r:List Nat) (k:Nat),(rn (aF v) r k).1.length<=4*r.length
 | [],_=>by simp[rn]
 | l::r,k=>by
  rw[rn,length_append,length_cons];have h1:=Yp hv r ((aF v).A k l);have h2:((aF v).st ((aF v).A k l) (rn (aF v) r ((aF v).A k l)).2 l).1.length<=4:=l7 hv _ _ _;show (rn (aF v) r ((aF v).A k l)).1.length+((aF v).st ((aF v).A k l) (rn (aF v) r ((aF v).A k l)).2 l).1.length<=_;omega
theorem CB.len(o:OK v s a)(h:CB v s a r E b)(k:Nat):(dG b k).length<=4*r.length+9000:=by
 rcases iK k v.k.ahead.length with hk | hk
 ·have e:=congrArg length (h.ok.sum k hk);rw[length_append,length_append]at e;have h1:=Yp o.vf r k;have h2:=KN o.sh hk (NT (gK o.vf) r k);have h3:=o.tt;omega
 ·rw[h.sh.hz k hk];simp
theorem kV{x y:aK}:uY x y=true↔x=y:=by
 unfold uY;rw[Bool.and_eq_true,decide_eq_true_eq,decide_eq_true_eq];constructor
 ·rintro⟨h1,h2⟩;cases x;cases y;simp only at h1 h2;rw[h1,h2]
 ·rintro rfl;exact⟨rfl,rfl⟩
theorem ES(b:aK):∀(bs:List aK) (i:Nat),i<=fU bs b i∧fU bs b i<=i+bs.length∧(fU bs b i<i+bs.length->bs[fU bs b i-i]?=some b)∧(fU bs b i=i+bs.length->b∉bs)
 | [],i=>⟨dH _,dH _,fun h=>absurd h (Nat.lt_irrefl _),fun _ h=>by cases h⟩
 | x::xs,i=>by
  rw[fU];by_cases hc:uY x b=true
  ·rw[aP hc];have:=kV.1 hc;subst this;refine⟨dH _,Nat.le_add_right _ _,fun _=>by simp,fun h=>absurd h (by simp)⟩
  ·rw[aU hc];obtain⟨h1,h2,h3,h4⟩:=ES b xs (i+1);rw[length_cons];refine⟨by omega,by omega,fun h=>?_,fun h=>?_⟩
   ·have:=h3 (by omega);rw[show fU xs b (i+1)-i=(fU xs b (i+1)-(i+1))+1 by omega,getElem?_cons_succ];exact this
   ·have:=h4 (by omega);intro hm;rcases mem_cons.1 hm with rfl | hm
    ·exact hc (kV.2 rfl)
    ·exact this hm
def Met(v:View)(s:bP)(a:Apart)(met:List aK):Prop:=(∀i b,met[i]?=some b->∃r E,CB v s a r E b∧r.length<=i∧Wd r)∧met.Nodup
def Is(v:View)(s:bP)(a:Apart)(met:List aK)(b:aK)(q:iL):Prop:=q.en=dG b 0∧q.sd.length=4∧q.nx.length=4∧∀l,l<4->∃nb,follow v s a b l=some (q.sd.getD l [],nb)∧met[q.nx.getD l 0]?=some nb
def KO(n:Nat):List Nat->Nat->Option Nat
 | [],m=>some m
 | t::ts,m=>if m<t∨n<=t then none else KO n ts (if t=m then m+1 else m)
def zC(n:Nat):List iL->Nat->Nat->Option Nat
 | [],_,m=>some m
 | q::qs,i,m=>if m<=i then none else match KO n [q.nx.getD 0 0,q.nx.getD 1 0,q.nx.getD 2 0,q.nx.getD 3 0] m with
  | none=>none
  | some m'=>zC n qs (i+1) m'
theorem Is.more{met':List aK}{q:iL}(h:Is v s a met b q):Is v s a (met++met') b q:=by
 refine⟨h.1,h.2.1,h.2.2.1,fun l hl=>?_⟩;obtain⟨nb,h1,h2⟩:=h.2.2.2 l hl;exact⟨nb,h1,by rw[jG (bU h2).1];exact h2⟩
section
variable {v:View} {s:bP} {a:Apart}
theorem Nk(o:OK v s a){b:aK}{r:List Nat}{E:By}(hb:CB v s a r E b)(hwd:Wd r){i:Nat}(IZ:r.length<=i)(hi:i<=1000):∀(m:Nat) (sd:List By) (nx:List Nat) (met:List aK),m<=4->sd.length=4-m->nx.length=4-m->Met v s a met->i<met.length ->(∀l,l<4-m->∃nb,follow v s a b l=some (sd.getD l [],nb)∧met[nx.getD l 0]?=some nb) ->∃NC nx' more,Qw v s a b m sd nx met=some (NC,nx',met++more)∧NC.length=4∧nx'.length=4∧Met v s a (met++more)∧(∀l,l<4-m->nx'.getD l 0=nx.getD l 0)∧more.length<=m ∧(∀l,l<4->∃nb,follow v s a b l=some (NC.getD l [],nb)∧(met++more)[nx'.getD l 0]?=some nb) ∧(∀N,met.length+more.length<=N->KO N ((nx'.drop (4-m))) met.length=some (met.length+more.length))
 | 0,sd,nx,met,_,h1,h2,hmet,_,h=>by
  refine⟨sd,nx,[],by rw[append_nil];rfl,by omega,by omega,by rw[append_nil];exact hmet,fun _ _=>rfl,dH _,fun l hl=>?_,fun N _=>?_⟩
  ·rw[append_nil];exact h l (by omega)
  ·rw[drop_of_length_le (by omega)];rfl
 | m+1,sd,nx,met,hm,h1,h2,hmet,him,h=>by
  obtain⟨said,nb,e1,e2,-,-⟩:=Iw o hb (l:=3-m) (B:=4*r.length+9000) (by omega) (by omega) (fun k=>hb.len o k);obtain⟨f1,f2,f3,f4⟩:=ES nb met 0;rw[Nat.zero_add]at f2 f3 f4;rw[Qw,e1];simp only[];have hwd2:Wd ((3-m)::r):=Yi (by omega) hwd;obtain⟨add,hadd,hal,hN,aEN,hget⟩:∃add:List aK,(if fU met nb 0=met.length then met++[nb] else met)=met++add∧add.length<=1∧(fU met nb 0=met.length∧add.length=1∨fU met nb 0<met.length∧add.length=0)∧Met v s a (met++add)∧(met++add)[fU met nb 0]?=some nb:=by
   by_cases hc:fU met nb 0=met.length
   ·refine⟨[nb],aP hc,dH _,Or.inl ⟨hc,rfl⟩,⟨fun j b' hj=>?_,?_⟩,?_⟩
    ·rcases iK j met.length with hlt | hge
     ·rw[jG hlt]at hj;exact hmet.1 j b' hj
     ·rw[mW hge]at hj;have hj0:j-met.length=0:=by
       have:=(bU hj).1;simp at this;omega
      rw[hj0]at hj;simp at hj;subst hj;exact⟨_,_,e2,by rw[length_cons];omega,hwd2⟩
    ·rw[nodup_append];refine⟨hmet.2,by simp,fun x hx y hy=>?_⟩;simp at hy;subst hy;intro e;subst e;exact f4 hc hx
    ·rw[hc,mW (dH _)];simp
   ·refine⟨[],by rw[aU hc,append_nil],by simp,Or.inr ⟨by omega,rfl⟩,by rw[append_nil];exact hmet,?_⟩;rw[append_nil];have:=f3 (by omega)
    rwa [Nat.sub_zero]at this
  rw[hadd];have hsd:∀l,l<4-(m+1)->(sd++[said]).getD l []=sd.getD l []:=fun l hl=>by
   rw[fM,jG (by omega),fM]
  have hnx:∀l,l<4-(m+1)->(nx++[fU met nb 0]).getD l 0=nx.getD l 0:=fun l hl=>by
   rw[fM,jG (by omega),fM]
  have aF4:(sd++[said]).getD (3-m) []=said:=by
   rw[fM,mW (by omega),show 3-m-sd.length=0 by omega];rfl
  have hnx3:(nx++[fU met nb 0]).getD (3-m) 0=fU met nb 0:=by
   rw[fM,mW (by omega),show 3-m-nx.length=0 by omega];rfl
  obtain⟨NC,nx',more,g1,g2,g3,g4,g5,g6,g7,g8⟩:=Nk o hb hwd IZ hi m (sd++[said]) (nx++[fU met nb 0]) (met++add) (by omega) (by rw[length_append];simp;omega) (by rw[length_append];simp;omega) aEN (by rw[length_append];omega) (fun l hl=>by
   rcases iK l (4-(m+1))with hlt | hge
   ·obtain⟨nb',q1,q2⟩:=h l hlt
    exact⟨nb',by rw[hsd l hlt];exact q1,by rw[hnx l hlt,jG (bU q2).1];exact q2⟩
   ·obtain rfl:l=3-m:=by omega
    exact⟨nb,by rw[aF4];exact e1,by rw[hnx3];exact hget⟩)
  refine⟨NC,nx',add++more,by rw[g1,append_assoc],g2,g3,by rw[<-append_assoc];exact g4,fun l hl=>by rw[g5 l (by omega),hnx l hl],by rw[length_append];omega,fun l hl=>by rw[<-append_assoc];exact g7 l hl,fun N hN2=>?_⟩;rw[length_append]at hN2;have hlt:3-m<nx'.length:=by omega
  have ed:nx'.drop (4-(m+1))=fU met nb 0::nx'.drop (4-m):=by
   rw[show 4-(m+1)=3-m by omega,kJ hlt,show 3-m+1=4-m by omega];congr 1;have:=g5 (3-m) (by omega);rw[hnx3,fM,bG hlt]at this;exact this
  rw[ed,KO,aU (by rcases hN with h | h <;> omega)];have g8':=g8 N (by rw[length_append];omega);rw[length_append]at g8';rw[length_append];rcases hN with ⟨q1,q2⟩ | ⟨q1,q2⟩
  ·rw[aP q1,q2];rw[q2]at g8';rw[g8'];congr 1;omega
  ·rw[aU (by omega),q2];rw[q2,Nat.add_zero]at g8';rw[g8'];congr 1;omega
end
theorem Nl(n:Nat)(q:iL):∀(qs:List iL) (i m:Nat) (m':Nat),zC n qs i m=some m'->zC n (qs++[q]) i m=zC n [q] (i+qs.length) m'
 | [],i,m,m',h=>by
  rw[zC]at h;cases h;rfl
 | x::qs,i,m,m',h=>by
  rw[zC]at h;show zC n (x::(qs++[q])) i m=_;rw[zC];split at h
  ·cases h
  ·rename_i hc;rw[aU hc];split at h
   ·cases h
   ·rename_i m1 h1;rw[Nl n q qs (i+1) m1 m' h,length_cons];congr 1;omega
structure Sf(v:View)(s:bP)(a:Apart)(b0:aK)(i:Nat)(met:List aK)(aC:List iL):Prop where
 mt:Met v s a met
 len:aC.length=i
 le:i<=met.length
 first:met[0]?=some b0
 is:∀(j:Nat) (q:iL),aC[j]?=some q->∃b,met[j]?=some b∧Is v s a met b q
 num:∀N,met.length<=N->zC N aC 0 1=some met.length
theorem four{nx:List Nat}(h:nx.length=4):[nx.getD 0 0,nx.getD 1 0,nx.getD 2 0,nx.getD 3 0]=nx:=by
 match nx,h with
 | [a,b,c,d],_=>rfl
section
variable {v:View} {s:bP} {a:Apart} {b0:aK}
theorem Sf.next(o:OK v s a)(h:Sf v s a b0 i met aC)(hb:met[i]?=some b)(hi:i<=1000):∃q more,b.held[0]?=some q.en∧Qw v s a b 4 [] [] met=some (q.sd,q.nx,met++more)∧Sf v s a b0 (i+1) (met++more) (aC++[q])∧more.length<=4:=by
 obtain⟨r,E,hcb,hr,hwd⟩:=h.mt.1 i b hb;have him:=(bU hb).1;obtain⟨sd,nx,more,e1,e2,e3,e4,-,e5,e6,e7⟩:=Nk o hcb hwd hr hi 4 [] [] met (dH _) rfl rfl h.mt him (fun l hl=>by omega);have hen:b.held[0]?=some (dG b 0):=by
  unfold dG;have:0<b.held.length:=by rw[hcb.sh.hl];omega
  rw[fM,bG this];rfl
 refine⟨⟨dG b 0,sd,nx⟩,more,hen,e1,⟨e4,by simp[h.len],by rw[length_append];omega,?_,fun j q hj=>?_,fun N hN=>?_⟩,e5⟩
 ·rw[jG (by omega)];exact h.first
 ·rcases iK j aC.length with hlt | hge
  ·rw[jG hlt]at hj;obtain⟨b',h1,h2⟩:=h.is j q hj;exact⟨b',by rw[jG (bU h1).1];exact h1,h2.more⟩
  ·rw[mW hge]at hj;have hj0:j-aC.length=0:=by
    have:=(bU hj).1;simp at this;omega
   rw[hj0]at hj;simp at hj;subst hj;have:j=i:=by rw[h.len]at hj0 hge;omega
   subst this;exact⟨b,by rw[jG him];exact hb,rfl,e2,e3,e6⟩
 ·rw[length_append]at hN;rw[Nl N _ aC 0 1 met.length (h.num N (by omega)),Nat.zero_add,h.len,zC,aU (by omega),four e3];have:=e7 N hN;rw[Nat.sub_self,drop_zero]at this;rw[this,length_append];rfl
theorem xN(o:OK v s a){limit:Nat}(hlim:limit<=200):∀(f i:Nat) (met:List aK) (aC:List iL),204<i+f->i<=204->Sf v s a b0 i met aC->(i<met.length∨met.length<=limit) ->∃res,dD v s a limit f i met aC=some res∧∀out,res=some out->∃met',Sf v s a b0 met'.length met' out∧met'.length<=limit
 | 0,i,met,aC,h1,h2,_,_=>by omega
 | f+1,i,met,aC,h1,h2,h,hor=>by
  rw[dD]
  cases hb:met[i]? with
  | none=>
   simp only[];refine⟨some aC,rfl,fun out e=>?_⟩;cases e;have hl:=h.le;have:met.length<=i:=List.getElem?_eq_none_iff.1 hb;obtain rfl:i=met.length:=by omega
   refine⟨met,h,?_⟩;rcases hor with h | h
   ·omega
   ·exact h
  | some b=>
   simp only[];by_cases hc:limit<met.length
   ·rw[aP hc];exact⟨none,rfl,fun out e=>by cases e⟩
   ·rw[aU hc];have him:=(bU hb).1;obtain⟨q,more,e1,e2,e3,e4⟩:=h.next o hb (by omega);rw[e1,e2];simp only[];have hq:(⟨q.en,q.sd,q.nx⟩:iL)=q:=rfl;rw[hq];refine xN o hlim f (i+1) (met++more) (aC++[q]) (by omega) (by omega) e3 ?_;rw[length_append];rcases iK (i+1) (met.length+more.length)with h | h
    ·exact Or.inl h
    ·exact Or.inr (by omega)
theorem xO{limit limit':Nat}:∀(f i:Nat) (met:List aK) (aC out:List iL),aC.length=i->dD v s a limit f i met aC=some (some out)->(out.length<=limit'->met.length<=out.length->dD v s a limit' f i met aC=some (some out))
 | 0,i,met,aC,out,_,h=>by rw[dD]at h;cases h
 | f+1,i,met,aC,out,hi,h=>fun hl hm=>by
  rw[dD]at h ⊢
  cases hb:met[i]? with
  | none=>
   rw[hb]at h;exact h
  | some b=>
   rw[hb]at h;simp only[]at h ⊢;split at h
   ·cases h
   ·rename_i hc;rw[aU (by omega)];split at h
    ·rename_i en sd nx met' he hs;refine xO f (i+1) met' _ out (by simp[hi]) h hl ?_;exact zD f (i+1) met' _ out (by simp[hi]) h
    ·cases h
where
 zD:∀(f i:Nat) (met:List aK) (aC out:List iL),aC.length=i->dD v s a limit f i met aC=some (some out)->met.length<=out.length
 | 0,i,met,aC,out,_,h=>by rw[dD]at h;cases h
 | f+1,i,met,aC,out,hi,h=>by
  rw[dD]at h
  cases hb:met[i]? with
  | none=>
   rw[hb]at h;cases h;have:=List.getElem?_eq_none_iff.1 hb;omega
  | some b=>
   rw[hb]at h;simp only[]at h;split at h
   ·cases h
   ·split at h
    ·rename_i en sd nx met' he hs;have h1:=zD f (i+1) met' _ out (by simp[hi]) h;have h2:=VA 4 [] [] met sd nx met' hs;omega
    ·cases h
 VA {b:aK}:∀(m:Nat) (sd:List By) (nx:List Nat) (met:List aK) (NC:List By) (nx':List Nat) (met':List aK),Qw v s a b m sd nx met=some (NC,nx',met')->met.length<=met'.length
 | 0,sd,nx,met,NC,nx',met',h=>by rw[Qw]at h;cases h;exact dH _
 | m+1,sd,nx,met,NC,nx',met',h=>by
  rw[Qw]at h;split at h
  ·cases h
  ·have:=VA m _ _ _ NC nx' met' h;refine Nat.le_trans ?_ this;split <;> simp
end
section
variable {v:View} {s:bP} {a:Apart}
theorem xQ{limit limit':Nat}:∀(f i:Nat) (met:List aK) (aC out:List iL),aC.length=i->i<met.length->dD v s a limit f i met aC=some (some out)->limit'<out.length->dD v s a limit' f i met aC=some none
 | 0,i,met,aC,out,_,_,h=>by rw[dD]at h;cases h
 | f+1,i,met,aC,out,hi,him,h=>fun hl=>by
  rw[dD]at h ⊢;rw[bG him]at h ⊢;simp only[]at h ⊢;split at h
  ·cases h
  ·by_cases hc:limit'<met.length
   ·rw[aP hc]
   ·rw[aU hc];split at h
    ·rename_i en sd nx met' he hs;rcases iK (i+1) met'.length with hlt | hge
     ·exact xQ f (i+1) met' _ out (by simp[hi]) hlt h hl
     ·exfalso
      match f,h with
      | 0,h=>rw[dD]at h;cases h
      | f+1,h=>
       rw[dD,getElem?_eq_none (by omega)]at h;cases h;simp at hl;omega
    ·cases h
end
def kC(aC:List iL):Nat->List Nat->By
 | j,[]=>(aC.getD j ⟨[],[],[]⟩).en
 | j,l::z=>((aC.getD j ⟨[],[],[]⟩).sd.getD l [])++kC aC ((aC.getD j ⟨[],[],[]⟩).nx.getD l 0) z
def fut(v:View)(s:bP)(b:aK)(z:List Nat):By:=dG b (kind (aF v) z)++tail (aF v) (jT s) (uP b (kind (aF v) z)) z
section
variable {v:View} {s:bP} {a:Apart} {b0:aK}
theorem ET(o:OK v s a)(h:CB v s a r E b){z:List Nat}(hz:Wd z):R (aF v) (r.reverse++z)=E++fut v s b z:=h.ok.says (gK o.vf) o.su hz
theorem EU(o:OK v s a){met:List aK}{aC:List iL}(h:Sf v s a b0 met.length met aC)(hm:met.length<=200):∀(z:List Nat) (j:Nat) (b:aK),Wd z->met[j]?=some b->kC aC j z=fut v s b z
 | [],j,b,_,hb=>by
  have hj:=(bU hb).1;have hj':j<aC.length:=by rw[h.len];exact hj
  obtain⟨b',h1,h2⟩:=h.is j _ (bG hj');rw[hb]at h1;cases h1;rw[kC,fM,bG hj',Option.getD_some,h2.1];unfold fut tail;simp[kind,out]
 | l::z,j,b,hz,hb=>by
  have hj:=(bU hb).1;have hj':j<aC.length:=by rw[h.len];exact hj
  have hl:=hz l mem_cons_self;have hz':Wd z:=fun x hx=>hz x (mem_cons_of_mem _ hx)
  obtain⟨b',h1,h2⟩:=h.is j _ (bG hj');rw[hb]at h1;cases h1;obtain⟨nb,e1,e2⟩:=h2.2.2.2 l hl;obtain⟨r,E,hcb,hr,-⟩:=h.mt.1 j b hb;obtain⟨said,nb',f1,f2,-,-⟩:=Iw o hcb hl (B:=4*r.length+9000) (by omega) (fun k=>hcb.len o k);rw[e1]at f1;injection f1 with f1;injection f1 with f3 f4;have ej:aC.getD j ⟨[],[],[]⟩=aC[j]:=by rw[fM,bG hj',Option.getD_some]
  rw[kC,ej,EU o h hm z _ nb hz' e2];rw[<-f4,<-f3]at f2;have g1:=ET o f2 hz';have g2:=ET o hcb (Yi hl hz');rw[reverse_cons,append_assoc,append_assoc]at g1;have g3:E++((aC[j]).sd.getD l []++fut v s nb z)=E++fut v s b (l::z):=by rw[<-g1,<-g2];rfl
  exact append_cancel_left g3
theorem aBv(o:OK v s a)(h:CB v s a r E b){T:By}(hT:∀z,Wd z->T <+: fut v s b z):T=[]:=by
 refine h.ok.bare T fun k hk=>?_
 have hall:∀z,Wd z->kind (aF v) z=k->T <+: dG b k++tail (aF v) (jT s) (uP b k) z:=fun z hz hkz=>by
  have:=hT z hz;unfold fut at this
  rwa [hkz]at this
 obtain⟨z0,hz0,hk0⟩:=o.has k hk;rcases lZ (hall z0 hz0 hk0) (prefix_append _ _)with hc | ⟨q,hq⟩
 ·exact hc
 ·have:q=[]:=Ag o.su hk (h.ok.tc4 k hk) fun z hz hkz=>by
   have e:=hall z hz hkz;rw[<-hq]at e;exact jY.1 e
  rw[<-hq,this,append_nil];exact uf _
theorem aBw(o:OK v s a)(hm:Met v s a met){j:Nat}(hi:met[i]?=some b)(hj:met[j]?=some b')(hf:∀z,Wd z->fut v s b z=fut v s b' z):i=j:=by
 obtain⟨r,E,h1,-,-⟩:=hm.1 i b hi;obtain⟨r',E',h2,-,-⟩:=hm.1 j b' hj;have he:=fun k (hk:k<v.k.ahead.length)=>qW.one (gK o.vf) o.su o.ap h1.ok h2.ok o.has hf hk
 obtain⟨e1,e2⟩:=RJ h1.sh h2.sh he;have:b=b':=by cases b;cases b';simp only at e1 e2;rw[e1,e2]
 subst this;obtain⟨hi1,hi2⟩:=bU hi;obtain⟨hj1,hj2⟩:=bU hj;exact(getElem_inj hm.2).1 (hi2.trans hj2.symm)
end
theorem nV:∀a u v:By,a.length<=common (a++u) (a++v)
 | [],_,_=>Nat.zero_le _
 | c::a,u,v=>by
  have:=nV a u v;simp only[cons_append,common,if_pos,length_cons];omega
theorem Iy(a u v:By):uO (a++u) (a++v)<=u.length+v.length:=by
 have:=nV a u v;unfold uO;simp only[length_append];omega
def I4(aC:List iL)(j:Nat):iL:=aC.getD j ⟨[],[],[]⟩
def mgo(aC:List iL):Nat->List Nat->By × Nat
 | j,[]=>([],j)
 | j,l::x=>((I4 aC j).sd.getD l []++(mgo aC ((I4 aC j).nx.getD l 0) x).1,(mgo aC ((I4 aC j).nx.getD l 0) x).2)
theorem EW(aC:List iL)(z:List Nat):∀(x:List Nat) (j:Nat),kC aC j (x++z)=(mgo aC j x).1++kC aC (mgo aC j x).2 z
 | [],j=>rfl
 | l::x,j=>by
  rw[cons_append,kC,mgo,EW aC z x];simp only[append_assoc];rfl
def big(aC:List iL):Nat:=(aC.map fun q=>q.en.length+(q.sd.map length).sum).sum
theorem VB{l:List Nat}{x:Nat}(h:x∈l):x<=l.sum:=by
 induction l with
 | nil=>cases h
 | cons a l ih=>
  rw[sum_cons];rcases mem_cons.1 h with rfl | h
  ·omega
  ·have:=ih h;omega
theorem Yq(aC:List iL)(j:Nat):(I4 aC j).en.length+((I4 aC j).sd.map length).sum<=big aC:=by
 unfold I4;rw[fM];rcases iK j aC.length with h | h
 ·rw[bG h,Option.getD_some];exact VB (mem_map.2 ⟨_,getElem_mem h,rfl⟩)
 ·rw[getElem?_eq_none h,Option.getD_none];simp
theorem aBx(l:Nat)(ss:List By):(ss.getD l []).length<=(ss.map length).sum:=by
 rw[fM];rcases iK l ss.length with h | h
 ·rw[bG h,Option.getD_some];exact VB (mem_map.2 ⟨_,getElem_mem h,rfl⟩)
 ·rw[getElem?_eq_none h,Option.getD_none];simp
theorem EX(aC:List iL):∀(z:List Nat) (j:Nat),(kC aC j z).length<=big aC*(z.length+1)
 | [],j=>by
  have:=Yq aC j;rw[kC];show (I4 aC j).en.length<=_;simp;omega
 | l::z,j=>by
  have h1:=Yq aC j;have h2:=aBx l (I4 aC j).sd;have h3:=EX aC z ((I4 aC j).nx.getD l 0);rw[kC];show ((I4 aC j).sd.getD l []++kC aC ((I4 aC j).nx.getD l 0) z).length<=_;rw[length_append,length_cons,Nat.mul_succ];omega
theorem WQ{b0:aK}(o:OK v s a)(h0:CB v s a [] [] b0)(h:Sf v s a b0 met.length met aC)(hm:met.length<=200)(hw:Wt v w):False:=by
 have hr:∀z,Wd z->R (aF v) z=kC aC 0 z:=fun z hz=>by
  have:=ET o h0 hz;rw[EU o h hm z 0 b0 hz h.first];exact this
 have hp:=hw.part (big aC*((ak w.z1).length+1)+big aC*((ak w.z2).length+1)+1);have hxy:∀m z,Wd (ak w.x++(rep (ak w.y) m++ak z)):=fun m z=>by
  have:=qX (w.x++(rep w.y m++z))
  rwa [gQ,gQ,yw]at this
 rw[hr _ (hxy _ _),hr _ (hxy _ _),<-append_assoc,<-append_assoc,EW,EW]at hp;have:=Iy (mgo aC 0 (ak w.x++rep (ak w.y) (big aC*((ak w.z1).length+1)+big aC*((ak w.z2).length+1)+1+w.c))).1 (kC aC (mgo aC 0 (ak w.x++rep (ak w.y) (big aC*((ak w.z1).length+1)+big aC*((ak w.z2).length+1)+1+w.c))).2 (ak w.z1)) (kC aC (mgo aC 0 (ak w.x++rep (ak w.y) (big aC*((ak w.z1).length+1)+big aC*((ak w.z2).length+1)+1+w.c))).2 (ak w.z2));have l1:=EX aC (ak w.z1) (mgo aC 0 (ak w.x++rep (ak w.y) (big aC*((ak w.z1).length+1)+big aC*((ak w.z2).length+1)+1+w.c))).2;have l2:=EX aC (ak w.z2) (mgo aC 0 (ak w.x++rep (ak w.y) (big aC*((ak w.z1).length+1)+big aC*((ak w.z2).length+1)+1+w.c))).2;omega
theorem EY(v:V){z z':List Nat}(h:kind v z=kind v z'):∀q,kind v (q++z)=kind v (q++z')
 | []=>h
 | l::q=>by rw[cons_append,cons_append,kind,kind,EY v h q]
theorem Iz(v:V){z z':List Nat}(h:kind v z=kind v z'):∀(q:List Nat) (t:Nat),∃(e:By) (t':Nat),out v t (q++z)=e++out v t' z∧out v t (q++z')=e++out v t' z'
 | [],t=>⟨[],t,rfl,rfl⟩
 | l::q,t=>by
  have hk:=EY v h (l::q);obtain⟨e,t',h1,h2⟩:=Iz v h q (v.st (kind v (l::q++z)) t l).2;refine⟨(v.st (kind v (l::q++z)) t l).1++e,t',?_,?_⟩
  ·rw[cons_append]at h1 ⊢;rw[out,h1,append_assoc]
  ·rw[append_assoc,<-h2,hk,cons_append,out]
theorem RN(hv:VF v){m:Nat}(hb:∀p z z',p.length=m->Wd (p++z)->Wd (p++z')->kind (aF v) (p++z)=kind (aF v) (p++z'))(hw:Wt v w):False:=by
 obtain⟨n,hn⟩:=eX (4*(m+(ak w.z1).length)+4*(m+(ak w.z2).length)+m+1);have hp:=hw.part n;obtain⟨x,hx⟩:=eX (ak w.x++rep (ak w.y) (n+w.c));rw[<-append_assoc,<-append_assoc,<-hx]at hp;have hxl:m<=x.length:=by
  have h1:1<=(ak w.y).length:=by
   rcases hy:ak w.y with _ | ⟨c,y⟩
   ·exact absurd (map_eq_nil_iff.1 hy) hw.y0
   ·simp
  rw[hx,length_append,wM];have:=Nat.mul_le_mul_left (n+w.c) h1;omega
 have hsp:x=x.take (x.length-m)++x.drop (x.length-m):=(take_append_drop _ x).symm;have hdl:(x.drop (x.length-m)).length=m:=by rw[length_drop];omega
 have hxw:Wd x:=by
  have:=qX (w.x++rep w.y (n+w.c));rw[gQ,yw]at this;rw[hx];exact this
 have hdw:Wd (x.drop (x.length-m)):=fun l hl=>hxw l (mem_of_mem_drop hl)
 have wda:∀{p z:List Nat},Wd p->Wd z->Wd (p++z):=fun hp hz l hl=>by
  rcases mem_append.1 hl with h | h
  ·exact hp l h
  ·exact hz l h
 have hk:=hb (x.drop (x.length-m)) (ak w.z1) (ak w.z2) hdl (wda hdw (qX _)) (wda hdw (qX _));obtain⟨e,t',e1,e2⟩:=Iz (aF v) hk (x.take (x.length-m)) 0;rw[<-append_assoc,<-hsp]at e1 e2;unfold R at hp;rw[e1,e2]at hp;have h1:=Iy e (out (aF v) t' (x.drop (x.length-m)++ak w.z1)) (out (aF v) t' (x.drop (x.length-m)++ak w.z2));have h2:=sS hv (x.drop (x.length-m)++ak w.z1) t';have h3:=sS hv (x.drop (x.length-m)++ak w.z2) t';rw[length_append,hdl]at h2 h3;omega
theorem Yr(hp:PV n p):placeOf n p<(n*4)*(n*4):=by
 unfold placeOf;obtain⟨px,ps,py,pt⟩:=p;obtain⟨h1,h2,h3,h4⟩:=hp;simp only at *;obtain⟨N,hN⟩:=eX (n*4);rw[<-hN];have a1:py*4+pt<N:=by omega
 have a2:px*4+ps+1<=N:=by omega
 have:=Nat.mul_le_mul_right N a2;rw[Nat.add_mul,Nat.one_mul]at this;omega
def nz(u:Nat):Bool:=decide (u≠0)
theorem Yt:∀(q:List Nat) (i x:Nat),q[i]?=some 0->(q.set i (x+1)).countP nz=q.countP nz+1
 | [],i,x,h=>by simp at h
 | a::q,0,x,h=>by
  simp at h;subst h;simp[nz]
 | a::q,i+1,x,h=>by
  have:=Yt q i x (by simpa using h);simp only[set_cons_succ,countP_cons,this];omega
structure GT(n:Nat)(pairs:List Pair)(nums:List Nat):Prop where
 nl:nums.length=(n*4)*(n*4)
 pl:pairs.length=nums.countP nz
theorem GT.le(h:GT n pairs nums)(hn:n<=24):pairs.length<=9216:=by
 have h1:=countP_le_length (p:=nz) (l:=nums);rw[h.nl]at h1;have h2:(n*4)*(n*4)<=96*96:=Nat.mul_le_mul (by omega) (by omega);rw[h.pl];omega
theorem EZ(h:GT n pairs nums)(hp:PV n p):∃k ps ns,oZ n pairs nums p=some (k,ps,ns)∧GT n ps ns:=by
 have hl:placeOf n p<nums.length:=by rw[h.nl];exact Yr hp
 unfold oZ;rw[bG hl];rcases hu:nums[placeOf n p]with _ | u
 ·refine⟨_,_,_,rfl,by rw[length_set];exact h.nl,?_⟩;rw[Yt _ _ _ (by rw[bG hl,hu]),length_append,h.pl];rfl
 ·exact⟨_,_,_,rfl,h⟩
section
variable {v:View}
abbrev Qp(v:View)(g:Gr):Prop:=GT v.k.ahead.length g.pairs g.nums
theorem uw(hv:VF v){fr l:Nat}(hl:l<4){p:Pair}(hp:PV v.k.ahead.length p){x:Nat}(hx:x<v.k.ahead.length):∀(rs:List R4) (y:Nat) (g:Gr),rs=v.k.ahead.drop y->Qp v g->g.steps.length+rs.length<=500000000->∃g',jy v.k.ahead.length fr l p (aW v p.x p.s l) (aW v p.y p.t l) x rs y g=some g'∧Qp v g'∧g'.steps.length<=g.steps.length+rs.length
 | [],y,g,_,h,_=>⟨g,by rw[jy],h,by simp⟩
 | r::rs,y,g,hr,h,hs=>by
  have hy:y<v.k.ahead.length:=by
   have:=congrArg length hr;rw[length_drop]at this;simp at this;omega
  rw[kJ hy]at hr;injection hr with hr1 hr2;have er:r=v.k.ahead.getD y ⟨0,0,0,0⟩:=by rw[hr1,fM,bG hy];rfl
  rw[length_cons]at hs ⊢;have h9:=h.le hv.le;rw[jy,er,uj hl];simp only[];split
  ·rw[aP ⟨by omega,by omega⟩];have hpv:PV v.k.ahead.length ⟨x,(aW v p.x p.s l).2,y,(aW v p.y p.t l).2⟩:=⟨hx,gX hv _ _ _ hp.2.1,hy,gX hv _ _ _ hp.2.2.2⟩;obtain⟨k,ps,ns,e1,e2⟩:=EZ h hpv;rw[e1];simp only[];obtain⟨g',f1,f2,f3⟩:=uw hv hl hp hx rs (y+1) ⟨ps,ns,g.steps++[⟨fr,k,l,(aW v p.x p.s l).1,(aW v p.y p.t l).1⟩]⟩ hr2 e2 (by simp only[length_append,length_singleton];omega);refine⟨g',f1,f2,?_⟩;simp only[length_append,length_singleton]at f3;omega
  ·obtain⟨g',f1,f2,f3⟩:=uw hv hl hp hx rs (y+1) g hr2 h (by omega);exact⟨g',f1,f2,by omega⟩
theorem uy(hv:VF v){fr l:Nat}(hl:l<4){p:Pair}(hp:PV v.k.ahead.length p):∀(rs:List R4) (x:Nat) (g:Gr),rs=v.k.ahead.drop x->Qp v g->g.steps.length+24*rs.length<=500000000->∃g',kR v.k.ahead.length fr l p (aW v p.x p.s l) (aW v p.y p.t l) v.k.ahead rs x g=some g'∧Qp v g'∧g'.steps.length<=g.steps.length+24*rs.length
 | [],x,g,_,h,_=>⟨g,by rw[kR],h,by simp⟩
 | r::rs,x,g,hr,h,hs=>by
  have hx:x<v.k.ahead.length:=by
   have:=congrArg length hr;rw[length_drop]at this;simp at this;omega
  rw[kJ hx]at hr;injection hr with hr1 hr2;have er:r=v.k.ahead.getD x ⟨0,0,0,0⟩:=by rw[hr1,fM,bG hx];rfl
  rw[length_cons]at hs ⊢;have WR:=hv.le;rw[kR,er,uj hl];simp only[];split
  ·obtain⟨g1,e1,e2,e3⟩:=uw hv hl hp (fr:=fr) hx v.k.ahead 0 g rfl h (by omega);rw[e1];simp only[];obtain⟨g',f1,f2,f3⟩:=uy hv hl hp (fr:=fr) rs (x+1) g1 hr2 e2 (by omega);exact⟨g',f1,f2,by omega⟩
  ·obtain⟨g',f1,f2,f3⟩:=uy hv hl hp (fr:=fr) rs (x+1) g hr2 h (by omega);exact⟨g',f1,f2,by omega⟩
theorem RP(hv:VF v){fr:Nat}(hl:l<4){g:Gr}(hi:GI v g)(hf:fr<g.pairs.length)(h:Qp v g)(hs:g.steps.length+576<=500000000):∃g',lead v fr l g=some g'∧Qp v g'∧g'.steps.length<=g.steps.length+576:=by
 unfold lead;rw[bG hf];simp only[];have hp:=hi.ni.val _ (getElem_mem hf);rw[aP (show g.pairs[fr].x<v.k.ahead.length∧g.pairs[fr].s<4∧g.pairs[fr].y<v.k.ahead.length∧g.pairs[fr].t<4 from hp)];have:=hv.le;obtain⟨g',e1,e2,e3⟩:=uy hv hl hp (fr:=fr) v.k.ahead 0 g rfl h (by omega);exact⟨g',e1,e2,by omega⟩
theorem uz(hv:VF v){fr:Nat}:∀(c:Nat) (g:Gr),c<=4->GI v g->fr<g.pairs.length->Qp v g->g.steps.length+c*576<=500000000->∃g',kT v fr c g=some g'∧Qp v g'∧g'.steps.length<=g.steps.length+c*576
 | 0,g,_,_,_,h,_=>⟨g,by rw[kT],h,by omega⟩
 | c+1,g,hc,hi,hf,h,hs=>by
  rw[kT];rw[Nat.succ_mul]at hs ⊢;have hs1:=Nat.le_trans (Nat.add_le_add_left (Nat.le_add_left 576 (c*576)) _) hs;obtain⟨g1,e1,e2,e3⟩:=RP hv (l:=3-c) (by omega) hi hf h hs1;rw[e1];simp only[];obtain⟨k1,k2⟩:=yu hv (by omega) hi e1;obtain⟨m,em⟩:=k2.pairs;have e4:g1.steps.length+c*576<=g.steps.length+(c*576+576):=Nat.le_trans (Nat.add_le_add_right e3 _) (by rw[Nat.add_assoc,Nat.add_comm 576];exact dH _);obtain⟨g',f1,f2,f3⟩:=uz (fr:=fr) hv c g1 (by omega) k1 (by rw[em,length_append];omega) e2 (Nat.le_trans e4 hs);exact⟨g',f1,f2,Nat.le_trans f3 e4⟩
theorem E5(hv:VF v):∀(f i:Nat) (g:Gr) (first:List Nat),first.length=i->i<=g.pairs.length->GI v g->Qp v g->g.steps.length<=i*2304->9216<i+f->∃g2 eG,grow v f i g first=some (g2,eG)∧Qp v g2∧g2.steps.length<=21233664∧eG.length=g2.pairs.length
 | 0,i,g,first,h1,h2,hi,h,hs,hf=>by
  have:=h.le hv.le;omega
 | f+1,i,g,first,h1,h2,hi,h,hs,hf=>by
  have h9:=h.le hv.le;rw[grow];split
  ·exact⟨g,first,rfl,h,by omega,by omega⟩
  ·rename_i hlt;rw[aP (by omega)];obtain⟨g1,e1,e2,e3⟩:=uz hv (fr:=i) 4 g (dH _) hi (by omega) h (by omega);rw[e1];simp only[];obtain⟨k1,k2⟩:=um hv 4 g g1 (dH _) hi e1;obtain⟨m,em⟩:=k2.pairs;exact E5 hv f (i+1) g1 _ (by simp[h1]) (by rw[em,length_append];omega) k1 e2 (by rw[Nat.succ_mul];omega) (by omega)
theorem Bg(hv:VF v){x:Nat}(hx:x<v.k.ahead.length):∀(c y:Nat) (g:Gr),y+c<=v.k.ahead.length->Qp v g->∃g',lH v.k.ahead.length x c y g=some g'∧Qp v g'
 | 0,y,g,_,h=>⟨g,by rw[lH],h⟩
 | c+1,y,g,hc,h=>by
  have h9:=h.le hv.le;rw[lH,aP (by omega)];obtain⟨k,ps,ns,e1,e2⟩:=EZ h (p:=⟨x,0,y,0⟩) ⟨hx,by show (0:Nat)<4;omega,by show y<_;omega,by show (0:Nat)<4;omega⟩;rw[e1];exact Bg hv hx c (y+1) ⟨ps,ns,g.steps⟩ (by omega) e2
theorem Bh(hv:VF v):∀(c x:Nat) (g:Gr),x+c<=v.k.ahead.length->Qp v g->∃g',kS v.k.ahead.length c x g=some g'∧Qp v g'
 | 0,x,g,_,h=>⟨g,by rw[kS],h⟩
 | c+1,x,g,hc,h=>by
  rw[kS];obtain⟨g1,e1,e2⟩:=Bg hv (x:=x) (by omega) (v.k.ahead.length-(x+1)) (x+1) g (by omega) h;rw[e1];exact Bh hv c (x+1) g1 (by omega) e2
end
end Th
end Go.Proofs.YtoebidlghdidoaaGreatDoor
