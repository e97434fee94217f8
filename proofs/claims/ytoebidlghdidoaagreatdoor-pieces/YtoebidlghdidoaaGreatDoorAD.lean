import Derived.Test.YtoebidlghdidoaaGreatDoorAC
namespace Go.Proofs.YtoebidlghdidoaaGreatDoor
open List
namespace Th
open M2 (View Pair Stp bf Af bM silent aW qU fH aA Ba iT outgrow ahead' seen aT pY)
open M3 (IX jB Qz Gr GG grow kT kS graph uZ eF bY idx xu weigh settle xK fV judge)
open aI (R4 common num lG)
variable {on res:List Int} {k np c N m i a here:Nat} {far u l last w:List Nat} {steps:List Stp} {v:View} {p:Pair} {one other:aA} {T1 T2 Q1 Q2 h0 h1 e g0 g1 e' IL RQ re1 re2 o0 o1 x y:By} {found:List fH} {pairs:List Pair} {fk f:fH} {b:Bool}
def gi(on:List Int)(k:Nat):Int:=on.getD k (-1)
def gn(far:List Nat)(k:Nat):Nat:=far.getD k 0
theorem aC8(h:k<on.length)(x:Int)(j:Nat):gi (on.set k x) j=if k=j then x else gi on j:=by
 unfold gi;rw[fM,getElem?_set];split
 ·rename_i e;subst e;rfl
 ·rw[fM]
theorem Yu(h:k<far.length)(x j:Nat):gn (far.set k x) j=if k=j then x else gn far j:=by
 unfold gn;rw[fM,getElem?_set];split
 ·rename_i e;subst e;rfl
 ·rw[fM]
theorem VD(h:k<on.length):on[k]?=some (gi on k):=by
 unfold gi;rw[fM,bG h];rfl
theorem VE(h:k<far.length):far[k]?=some (gn far k):=by
 unfold gn;rw[fM,bG h];rfl
def zr(u:Nat):Bool:=decide (u=0)
theorem Yv:∀(q:List Nat) (i x:Nat),q[i]?=some 0->(q.set i (x+1)).countP zr+1=q.countP zr
 | [],i,x,h=>by simp at h
 | a::q,0,x,h=>by
  simp at h;subst h;simp[zr]
 | a::q,i+1,x,h=>by
  have:=Yv q i x (by simpa using h);simp only[set_cons_succ,countP_cons];omega
structure OJ(steps:List Stp)(np:Nat)(on ow:List Int)(far:List Nat)(round:Nat):Prop where
 lo:ow.length=np
 lf:far.length=np
 sg:∀k,0<=gi ow k↔gn far k≠0
 rk:∀k,gn far k≠0->∃s,steps[(gi ow k).toNat]?=some s∧s.fr=k∧((gn far k=1∧silent s=false∧0<=gi on s.tt)∨(1<gn far k∧gn far s.tt=gn far k-1))
 le:∀k,gn far k<=round
 rg:∀x∈ow,-1<=x∧x<=(steps.length:Int)
def StV(np:Nat)(steps:List Stp):Prop:=∀s∈steps,s.fr<np∧s.tt<np
theorem qY{steps:List Stp}{np:Nat}(hst:StV np steps){on:List Int}(hon:on.length=np){round:Nat}(hr:1<=round):∀(ss:List Stp) (i:Nat) (ow:List Int) (far:List Nat) (gr:Bool),ss=steps.drop i->OJ steps np on ow far round ->∃KH far' Me,bf on round ss i ow far gr=some (KH,far',Me)∧OJ steps np on KH far' round∧(∀k,gn far k≠0->gn far' k=gn far k)∧(∀k,gn far k=0->gn far' k=0∨gn far' k=round)
   ∧ (∀s∈ss,(round=1->silent s=false->0<=gi on s.tt->gn far' s.fr≠0)∧(1<round->gn far s.tt=round-1->gn far' s.fr≠0))
   ∧ far'.countP zr<=far.countP zr∧(gr=true->Me=true)∧(Me=true->gr=true∨far'.countP zr<far.countP zr)∧(Me=false->far'=far)
 | [],i,ow,far,gr,_,h=>⟨ow,far,gr,by rw[bf],h,fun _ _=>rfl,fun _ h=>Or.inl h,fun s hs=>(by cases hs),dH _,id,Or.inl,fun _=>rfl⟩
 | s::ss,i,ow,far,gr,hs,h=>by
  have hi:i<steps.length:=by
   have:=congrArg length hs;rw[length_drop]at this;simp at this;omega
  rw[kJ hi]at hs;injection hs with hs1 hs2;obtain⟨v1,v2⟩:=hst s (hs1 ▸ getElem_mem hi);have hf:=h.lf;have ho:=h.lo;rw[bf,VD (by omega),VE (by omega),VE (by omega)];simp only[];split
  ·rename_i hc;simp only[Bool.and_eq_true,Bool.or_eq_true,decide_eq_true_eq,Bool.not_eq_true']at hc;obtain⟨hz,hcase⟩:=hc;have hz':far[s.fr]?=some 0:=by rw[VE (by omega),hz]
   obtain⟨q,hq⟩:∃q,round=q+1:=⟨round-1,by omega⟩;have gf:∀k,gn (far.set s.fr round) k=if s.fr=k then round else gn far k:=Yu (by omega) round
   have go:∀k,gi (ow.set s.fr (i:Int)) k=if s.fr=k then (i:Int) else gi ow k:=aC8 (by omega) i
   have h':OJ steps np on (ow.set s.fr (i:Int)) (far.set s.fr round) round:=by
    refine⟨by rw[length_set];exact ho,by rw[length_set];exact hf,fun k=>?_,fun k hk=>?_,fun k=>?_,fun x hx=>?_⟩
    ·rw[gf,go];split
     ·omega
     ·exact h.sg k
    ·rw[gf]at hk ⊢;rw[go];by_cases e:s.fr=k
     ·rw[aP e,aP e];refine⟨s,by rw[Int.toNat_natCast,bG hi,hs1],e,?_⟩;rcases hcase with ⟨⟨c1,c2⟩,c3⟩ | ⟨c1,c2⟩
      ·exact Or.inl ⟨c1,c2,c3⟩
      ·refine Or.inr ⟨c1,?_⟩;rw[gf,aU]
       ·exact c2
       ·intro e2;rw[<-e2,hz]at c2;omega
     ·rw[aU e]at hk;rw[aU e,aU e];obtain⟨s2,b1,b2,b3⟩:=h.rk k hk;refine⟨s2,b1,b2,?_⟩;rcases b3 with b3 | ⟨b3,b4⟩
      ·exact Or.inl b3
      ·refine Or.inr ⟨b3,?_⟩;rw[gf,aU]
       ·exact b4
       ·intro e2;rw[<-e2,hz]at b4;omega
    ·rw[gf];split
     ·exact dH _
     ·exact h.le k
    ·rcases mem_or_eq_of_mem_set hx with hx | hx
     ·exact h.rg x hx
     ·subst hx;omega
   obtain⟨KH,far',Me,e1,e2,e3,e4,e5,e6,e7,e8,e9⟩:=qY hst hon hr ss (i+1) _ _ true hs2 h';have hcnt:(far.set s.fr round).countP zr+1=far.countP zr:=by rw[hq];exact Yv far s.fr q hz'
   have hfr:gn far' s.fr=round:=by
    have:=e3 s.fr (by rw[gf,aP rfl];omega);rw[this,gf,aP rfl]
   refine⟨KH,far',Me,e1,e2,fun k hk=>?_,fun k hk=>?_,fun s2 hs2'=>?_,by omega,fun _=>e7 rfl,fun _=>Or.inr (by omega),fun hg=>?_⟩
   ·have:s.fr≠k:=fun e=>hk (by rw[<-e];exact hz)
    have:=e3 k (by rw[gf,aU this];exact hk);rw[this,gf,aU (by assumption)]
   ·by_cases e:s.fr=k
    ·rw[<-e,hfr];exact Or.inr rfl
    ·exact e4 k (by rw[gf,aU e];exact hk)
   ·rcases mem_cons.1 hs2' with rfl | hm
    ·exact⟨fun _ _ _=>by omega,fun _ _=>by omega⟩
    ·refine⟨(e5 s2 hm).1,fun a b=>(e5 s2 hm).2 a ?_⟩;rw[gf,aU]
     ·exact b
     ·intro e;rw[<-e,hz]at b;omega
   ·rw[e7 rfl]at hg;cases hg
  ·rename_i hc;simp only[Bool.and_eq_true,Bool.or_eq_true,decide_eq_true_eq,Bool.not_eq_true']at hc;obtain⟨KH,far',Me,e1,e2,e3,e4,e5,e6,e7,e8,e9⟩:=qY hst hon hr ss (i+1) ow far gr hs2 h;refine⟨KH,far',Me,e1,e2,e3,e4,fun s2 hs2'=>?_,e6,e7,e8,e9⟩;rcases mem_cons.1 hs2' with rfl | hm
   ·have key:gn far s2.fr≠0->gn far' s2.fr≠0:=fun h0=>by rw[e3 _ h0];exact h0
    refine⟨fun a b c=>key fun h0=>hc ⟨h0,Or.inl ⟨⟨a,b⟩,c⟩⟩,fun a b=>key fun h0=>hc ⟨h0,Or.inr ⟨a,b⟩⟩⟩
   ·exact e5 s2 hm
structure YV(steps:List Stp)(np:Nat)(on res:List Int):Prop where
 len:res.length=np
 rg:∀x∈res,-1<=x∧x<=(steps.length:Int)
 rank:∃far:List Nat,(∀k,0<=gi res k↔gn far k≠0)∧∀k,gn far k≠0->∃s,steps[(gi res k).toNat]?=some s∧s.fr=k∧((gn far k=1∧silent s=false∧0<=gi on s.tt)∨(1<gn far k∧gn far s.tt=gn far k-1))
 hit:∀s∈steps,silent s=false->0<=gi on s.tt->0<=gi res s.fr
 clo:∀s∈steps,0<=gi res s.tt->0<=gi res s.fr
theorem E8{steps:List Stp}{np:Nat}(hst:StV np steps){on:List Int}(hon:on.length=np):∀(f q:Nat) (ow:List Int) (far:List Nat),far.countP zr<f->OJ steps np on ow far q->(∀s∈steps,(0<q->silent s=false->0<=gi on s.tt->gn far s.fr≠0)∧(gn far s.tt≠0->gn far s.tt<q->gn far s.fr≠0)) ->∃res,Af on steps f (q+1) ow far=some res∧YV steps np on res
 | 0,q,ow,far,h0,_,_=>by omega
 | f+1,q,ow,far,h0,h,hd=>by
  have h1:OJ steps np on ow far (q+1):=⟨h.lo,h.lf,h.sg,h.rk,fun k=>Nat.le_succ_of_le (h.le k),h.rg⟩;obtain⟨KH,far',Me,e1,e2,e3,e4,e5,e6,e7,e8,e9⟩:=qY hst hon (round:=q+1) (by omega) steps 0 ow far false rfl h1;have hd':∀s∈steps,(0<q+1->silent s=false->0<=gi on s.tt->gn far' s.fr≠0)∧(gn far' s.tt≠0->gn far' s.tt<q+1->gn far' s.fr≠0):=fun s hs=>by
   have key:gn far s.fr≠0->gn far' s.fr≠0:=fun h0=>by rw[e3 _ h0];exact h0
   refine⟨fun _ b c=>?_,fun a b=>?_⟩
   ·rcases Nat.eq_zero_or_pos q with hq | hq
    ·exact(e5 s hs).1 (by omega) b c
    ·exact key ((hd s hs).1 hq b c)
   ·by_cases hz:gn far s.tt=0
    ·rcases e4 _ hz with h2 | h2
     ·exact absurd h2 a
     ·omega
    ·rw[e3 _ hz]at b;rcases iK (gn far s.tt) q with h2 | h2
     ·exact key ((hd s hs).2 hz h2)
     ·exact(e5 s hs).2 (by omega) (by omega)
  rw[Af,e1];simp only[];rcases hg:Me with _ | _
  ·have ef:=e9 hg;refine⟨KH,by simp,e2.lo,e2.rg,⟨far',e2.sg,e2.rk⟩,fun s hs a b=>(e2.sg _).2 ((hd' s hs).1 (by omega) a b),fun s hs a=>(e2.sg _).2 ((hd' s hs).2 ((e2.sg _).1 a) ?_)⟩;rw[ef];have:=h.le s.tt;omega
  ·rw[aP rfl];rcases e8 hg with h2 | h2
   ·cases h2
   ·exact E8 hst hon f (q+1) KH far' (by omega) e2 hd'
theorem yD(n k:Nat):gn (replicate n 0) k=0:=by
 unfold gn;rw[fM,getElem?_replicate];split <;> rfl
theorem aC9(n k:Nat):gi (replicate n (-1)) k=-1:=by
 unfold gi;rw[fM,getElem?_replicate];split <;> rfl
theorem Ea(hnp:np<=9216)(hst:StV np steps)(hon:on.length=np):∃res,IX np steps on=some res∧YV steps np on res:=by
 unfold IX;have hc:=countP_le_length (p:=zr) (l:=replicate np 0);rw[length_replicate]at hc;refine E8 hst hon 10000 0 _ _ (by omega) ⟨length_replicate,length_replicate,fun k=>?_,fun k hk=>absurd (yD np k) hk,fun k=>by rw[yD];omega,fun x hx=>?_⟩ fun s _=>⟨fun h=>by omega,fun _ h=>by omega⟩
 ·rw[yD,aC9];omega
 ·rw[eq_of_mem_replicate hx];omega
theorem Yw{on2 aDa:List Int}(h:YV steps np on res)(h2:YV steps np on2 aDa)(hs:∀k,0<=gi on k->0<=gi on2 k)(k:Nat)(hk:0<=gi res k):0<=gi aDa k:=by
 obtain⟨far,f1,f2⟩:=h.rank;have:∀n k,gn far k<=n->gn far k≠0->0<=gi aDa k:=fun n=>by
  induction n with
  | zero=>intro k a b;omega
  | succ n ih=>
   intro k a b;obtain⟨s,c1,c2,c3⟩:=f2 k b;have hm:=iI c1;rcases c3 with ⟨d1,d2,d3⟩ | ⟨d1,d2⟩
   ·have:=h2.hit s hm d2 (hs _ d3)
    rwa [c2]at this
   ·have:=h2.clo s hm (ih s.tt (by omega) (by omega))
    rwa [c2]at this
 exact this _ k (dH _) ((f1 k).1 hk)
theorem count_le:∀(a b:List Int),a.length=b.length->(∀k,0<=gi a k->0<=gi b k)->bM a<=bM b∧(bM a=bM b->∀k,0<=gi b k->0<=gi a k)
 | [],[],_,_=>⟨dH _,fun _ _ h=>h⟩
 | [],_::_,h,_=>by simp at h
 | _::_,[],h,_=>by simp at h
 | x::a,y::b,hl,h=>by
  obtain⟨i1,i2⟩:=count_le a b (by simpa using hl) fun k hk=>h (k+1) hk
  have h0:0<=x->0<=y:=h 0;rw[bM,bM];refine⟨?_,fun e k hk=>?_⟩
  ·by_cases hx:0<=x
   ·rw[aP hx,aP (h0 hx)];omega
   ·rw[aU hx];split <;> omega
  ·by_cases hx:0<=x
   ·rw[aP hx,aP (h0 hx)]at e
    match k,hk with
    | 0,_=>exact hx
    | k+1,hk=>exact i2 (by omega) k hk
   ·rw[aU hx]at e;by_cases hy:0<=y
    ·rw[aP hy]at e;omega
    ·rw[aU hy]at e
     match k,hk with
     | 0,hk=>exact absurd hk hy
     | k+1,hk=>exact i2 (by omega) k hk
theorem Dc(h:YV steps np on res)(hs:steps.length<=100000000):Qz np res=true:=by
 unfold Qz;rw[Bool.and_eq_true,decide_eq_true_eq,all_eq_true];refine⟨h.len,fun x hx=>?_⟩;have:=h.rg x hx;rw[Bool.and_eq_true,decide_eq_true_eq,decide_eq_true_eq];omega
theorem JA{steps:List Stp}{np:Nat}(hnp:np<=9216)(hst:StV np steps)(hs:steps.length<=100000000):∀(f:Nat) (prev on:List Int),prev.length=np->YV steps np prev on->(∀k,0<=gi on k->0<=gi prev k)->bM on+1<f ->∃res,jB np steps f (some (bM prev)) (bM on) on=some res∧YV steps np res res
 | 0,_,_,_,_,_,h=>by omega
 | f+1,prev,on,hp,h,hsub,hf=>by
  rw[jB];have hc:=count_le on prev (by rw[h.len,hp]) hsub;split
  ·rename_i he;injection he with he;have hsame:=hc.2 he.symm;obtain⟨far,f1,f2⟩:=h.rank;refine⟨on,rfl,h.len,h.rg,⟨far,f1,fun k hk=>?_⟩,fun s hm a b=>h.hit s hm a (hsub _ b),h.clo⟩;obtain⟨s,c1,c2,c3⟩:=f2 k hk;exact⟨s,c1,c2,c3.imp (fun⟨d1,d2,d3⟩=>⟨d1,d2,hsame _ d3⟩) id⟩
  ·rename_i he;have hlt:bM on<bM prev:=by
    rcases iK (bM on) (bM prev)with h1 | h1
    ·exact h1
    ·exact absurd (congrArg some (Nat.le_antisymm h1 hc.1)) he
   obtain⟨o,e1,e2⟩:=Ea hnp hst h.len;rw[e1];simp only[];rw[aP (Dc e2 hs)];have Yx:=Yw e2 h hsub;have hc':=count_le o on (by rw[e2.len,h.len]) Yx;rcases iK (bM o) (bM on)with h1 | h1
   ·exact JA hnp hst hs f on o h.len e2 Yx (by omega)
   ·have heq:=Nat.le_antisymm hc'.1 h1;obtain⟨g,hg⟩:∃g,f=g+1∨f=0:=⟨f-1,by omega⟩;rcases hg with hg | hg
    ·rw[hg,jB,aP (congrArg some heq.symm)];have hsame:=hc'.2 heq;obtain⟨far,f1,f2⟩:=e2.rank;refine⟨o,rfl,e2.len,e2.rg,⟨far,f1,fun k hk=>?_⟩,fun s hm a b=>e2.hit s hm a (Yx _ b),e2.clo⟩;obtain⟨s,c1,c2,c3⟩:=f2 k hk;exact⟨s,c1,c2,c3.imp (fun⟨d1,d2,d3⟩=>⟨d1,d2,hsame _ d3⟩) id⟩
    ·omega
theorem JB:∀a:List Int,bM a<=a.length
 | []=>dH _
 | x::a=>by
  have:=JB a;rw[bM,length_cons];split <;> omega
theorem JC:∀n,bM (replicate n 0)=n
 | 0=>rfl
 | n+1=>by
  rw[replicate_succ,bM,JC n,aP (Int.le_refl 0)];omega
theorem aBy{n:Nat}(h:k<n):gi (replicate n 0) k=0:=by
 unfold gi;rw[fM,getElem?_replicate,aP h];rfl
theorem aEO(h:0<=gi on k):k<on.length:=by
 rcases iK k on.length with h1 | h1
 ·exact h1
 ·exfalso;unfold gi at h;rw[fM,getElem?_eq_none h1]at h;simp at h
theorem KQ(hnp:np<=9216)(hst:StV np steps)(hs:steps.length<=100000000):∃res,jB np steps 10000 none np (replicate np 0)=some res∧YV steps np res res:=by
 rw[jB,aU (by simp)];obtain⟨o,e1,e2⟩:=Ea hnp hst (on:=replicate np 0) length_replicate;rw[e1];simp only[];rw[aP (Dc e2 hs)];have hl:=JB o;rw[e2.len]at hl;have:=JA hnp hst hs 9999 (replicate np 0) o length_replicate e2 (fun k hk=>by rw[aBy (by rw[<-e2.len];exact aEO hk)];exact Int.le_refl _) (by omega)
 rwa [JC]at this
theorem JD{v:View}(hv:VF v):∀(f i:Nat) (g:Gr) (first:List Nat) (g2:Gr) (eG:List Nat),GI v g->(∀a∈first,a<=g.steps.length)->(∀(k:Nat) (a b:Nat),first[k]?=some a->first[k+1]?=some b->a<=b)->grow v f i g first=some (g2,eG)->(∀a∈eG,a<=g2.steps.length)∧∀(k:Nat) (a b:Nat),eG[k]?=some a->eG[k+1]?=some b->a<=b
 | 0,i,g,first,g2,eG,_,_,_,e=>by rw[grow]at e;cases e
 | f+1,i,g,first,g2,eG,h,h1,h2,e=>by
  rw[grow]at e;split at e
  ·cases e;exact⟨h1,h2⟩
  ·split at e
   ·split at e
    ·cases e
    ·rename_i g3 hg;obtain⟨k1,k2⟩:=um hv 4 g g3 (dH _) h hg;obtain⟨ss,es,-⟩:=k2.steps;refine JD hv f (i+1) g3 _ g2 eG k1 (fun a ha=>?_) (fun k a b ha hb=>?_) e
     ·rw[es,length_append];rcases mem_append.1 ha with h3 | h3
      ·have:=h1 a h3;omega
      ·simp at h3;omega
     ·have hb':=(bU hb).1;rw[length_append,length_singleton]at hb';rw[jG (by omega)]at ha;rcases iK (k+1) first.length with hlt | hge
      ·rw[jG hlt]at hb;exact h2 k a b ha hb
      ·rw[mW hge,show k+1-first.length=0 by omega]at hb;simp at hb;subst hb;exact h1 a (iI ha)
   ·cases e
theorem JE{v:View}(hv:VF v):∀(f i:Nat) (g:Gr) (first:List Nat) (g2:Gr) (eG:List Nat),GI v g->Qp v g->g.steps.length<=i*2304->(∀(k:Nat) (a b:Nat),(first++[g.steps.length])[k]?=some a->(first++[g.steps.length])[k+1]?=some b->b<=a+2304)->grow v f i g first=some (g2,eG)->∀(k:Nat) (a b:Nat),(eG++[g2.steps.length])[k]?=some a->(eG++[g2.steps.length])[k+1]?=some b->b<=a+2304
 | 0,i,g,first,g2,eG,_,_,_,_,e=>by rw[grow]at e;cases e
 | f+1,i,g,first,g2,eG,h,ht,hs,h2,e=>by
  have h9:=ht.le hv.le;rw[grow]at e;split at e
  ·cases e;exact h2
  ·rename_i hlt;obtain⟨g1,e1,e2,e3⟩:=uz hv (fr:=i) 4 g (dH _) h (by omega) ht (by omega);rw[e1]at e;split at e
   ·simp only[]at e;obtain⟨k1,-⟩:=um hv 4 g g1 (dH _) h e1;refine JE hv f (i+1) g1 _ g2 eG k1 e2 (by rw[Nat.add_mul];omega) (fun k a b ha hb=>?_) e;have hb':=(bU hb).1;rw[length_append,length_singleton]at hb';rw[jG (by omega)]at ha;rcases iK (k+1) (first++[g.steps.length]).length with hl | hg
    ·rw[jG hl]at hb;exact h2 k a b ha hb
    ·rw[mW hg,show k+1-(first++[g.steps.length]).length=0 by omega]at hb;simp at hb;subst hb;rw[length_append,length_singleton]at hg hb';rw[mW (by omega),show k-first.length=0 by omega]at ha;simp at ha;subst ha;omega
   ·cases e
structure GX(v:View)(R:GG):Prop where
 ok:GOK v R
 np:R.g.pairs.length<=9216
 ns:R.g.steps.length<=21233664
 fl:R.first.length=R.g.pairs.length+1
 fm:∀(k:Nat) (a b:Nat),R.first[k]?=some a->R.first[k+1]?=some b->a<=b∧b<=R.g.steps.length
 fd:∀(k:Nat) (a b:Nat),R.first[k]?=some a->R.first[k+1]?=some b->b<=a+2304
 on:YV R.g.steps R.g.pairs.length R.on R.on
 st:R.st<=R.g.pairs.length
 sv:StV R.g.pairs.length R.g.steps
theorem Bj(hv:VF v):∃R,graph v=some R∧GX v R:=by
 obtain⟨n,hn⟩:=eX v.k.ahead.length;have hcz:∀m,(replicate m 0).countP nz=0:=fun m=>by
  rw[countP_eq_zero];intro a ha;rw[eq_of_mem_replicate ha];simp[nz]
 have hT0:Qp v ⟨[],replicate ((v.k.ahead.length*4)*(v.k.ahead.length*4)) 0,[]⟩:=⟨length_replicate,(hcz _).symm⟩;have h0:GI v ⟨[],replicate ((v.k.ahead.length*4)*(v.k.ahead.length*4)) 0,[]⟩:=by
  refine⟨⟨(fun p hp=>by cases hp),fun k u hu=>?_⟩,(fun s hs=>by cases hs)⟩;rw[getElem?_replicate]at hu;split at hu
  ·cases hu
  ·cases hu
 obtain⟨g,e1,e2⟩:=Bh hv v.k.ahead.length 0 _ (by omega) hT0;obtain⟨k1,k2,k3⟩:=EM v.k.ahead.length 0 _ g (by omega) h0 (fun p hp=>by cases hp) e1;have hgs:g.steps.length=0:=by rw[k2];rfl
 obtain⟨g2,first,f1,f2,f3,f4⟩:=E5 hv 10000 0 g [] rfl (by omega) k1 e2 (by omega) (by omega);obtain⟨m1,m2⟩:=JD hv 10000 0 g [] g2 first k1 (fun a ha=>by cases ha) (fun k a b ha=>by simp at ha) f1;obtain⟨j1,j2,m,em⟩:=aJd hv 10000 0 g [] g2 first rfl k1 ⟨(fun a ha=>by cases ha),(fun k a b ha=>by simp at ha)⟩ f1;have hdf:=JE hv 10000 0 g [] g2 first k1 e2 (by omega) (fun k a b _ hb=>by simp at hb) f1;have hnp:=f2.le hv.le;have hsv:StV g2.pairs.length g2.steps:=fun s hs=>by
  obtain⟨p,q,a,b,-⟩:=j1.st s hs;exact⟨(bU a).1,(bU b).1⟩
 obtain⟨on,o1,o2⟩:=KQ hnp hsv (by omega);have hR:graph v=some ⟨g2,g.pairs.length,first++[g2.steps.length],on⟩:=by
  unfold graph;rw[e1];simp only[];rw[f1];simp only[];rw[aP ⟨by omega,by omega⟩,o1]
 refine⟨_,hR,Nj hv hR,hnp,f3,by simp[f4],fun k a b ha hb=>?_,hdf,o2,by rw[em,length_append];exact Nat.le_add_right _ _,hsv⟩;simp only at ha hb ⊢;have hb':=(bU hb).1;rw[length_append,length_singleton]at hb';rw[jG (by omega)]at ha;rcases iK (k+1) first.length with hlt | hge
 ·rw[jG hlt]at hb;exact⟨m2 k a b ha hb,m1 b (iI hb)⟩
 ·rw[mW hge,show k+1-first.length=0 by omega]at hb;simp at hb;subst hb;exact⟨m1 a (iI ha),dH _⟩
theorem mX:∀(n:Nat) (l:List Nat),l.Nodup->(∀x∈l,x<n)->l.length<=n
 | 0,[],_,_=>dH _
 | 0,x::l,_,h=>absurd (h x mem_cons_self) (by omega)
 | n+1,l,hd,h=>by
  by_cases hm:n∈l
  ·have h1:=mX n (l.erase n) (hd.erase n) fun x hx=>by
    have h2:=h x (mem_of_mem_erase hx);have h3:=((Nodup.mem_erase_iff hd).1 hx).1;omega
   rw[length_erase_of_mem hm]at h1;omega
  ·have h1:=mX n l hd fun x hx=>by
    have h2:=h x hx;have h3:x≠n:=fun e=>hm (e ▸ hx)
    omega
   omega
theorem Bl:∀a b:By,common (a.drop (common a b)) (b.drop (common a b))=0
 | [],b=>by simp[common]
 | a::as',[]=>by simp[common]
 | x::a,y::b=>by
  by_cases e:x=y
  ·have:=Bl a b;simp only[common,if_pos e,drop_succ_cons];exact this
  ·simp only[common,if_neg e,drop_zero]
theorem Bo:∀a b:By,a.take (common a b)=b.take (common a b)
 | [],b=>by simp[common]
 | a::as',[]=>by simp[common]
 | x::a,y::b=>by
  by_cases e:x=y
  ·have:=Bo a b;simp only[common,if_pos e,take_succ_cons];rw[this,e]
  ·simp only[common,if_neg e,take_zero]
def HP(v:View)(pairs:List Pair)(found:List fH):Prop:=∀i f,found[i]?=some f->∃q,pairs[f.pair]?=some q ∧((f.fr=-1∧f.h0=[]∧f.h1=[]∧q.s=0∧q.t=0)∨∃(j:Nat) (g:fH) (p:Pair) (s:Stp),f.fr=(j:Int)∧j<i∧found[j]?=some g∧pairs[g.pair]?=some p∧Rel v p s q∧f.l=s.l∧f.h0=(g.h0++s.s0).drop (common (g.h0++s.s0) (g.h1++s.s1))∧f.h1=(g.h1++s.s1).drop (common (g.h0++s.s0) (g.h1++s.s1)))
inductive Wo(found:List fH):Nat->List Nat->Prop
 | start {i:Nat} {f:fH}:found[i]?=some f->f.fr=-1->Wo found i []
 | step {i j:Nat} {f:fH} {u:List Nat}:found[i]?=some f->f.fr=(j:Int)->Wo found j u->Wo found i (u++[f.l])
structure Held(v:View)(pairs:List Pair)(found:List fH)(i:Nat)(f:fH)(u:List Nat)(p0 q:Pair)(e:By):Prop where
 pq:pairs[f.pair]?=some q
 wo:Wo found i u
 ld:Lead v p0 u q
 s0:p0.s=0
 t0:p0.t=0
 ox:(dJ (aF v) q.x 0 u).1=e++f.h0
 oy:(dJ (aF v) q.y 0 u).1=e++f.h1
 bare:common f.h0 f.h1=0
theorem aBz{q:Pair}{s:Stp}(h:Rel v p s q){p0:Pair}(s0:p0.s=0)(t0:p0.t=0)(hl:Lead v p0 u p):(dJ (aF v) q.x 0 (u++[s.l])).1=(dJ (aF v) p.x 0 u).1++s.s0∧(dJ (aF v) q.y 0 (u++[s.l])).1=(dJ (aF v) p.y 0 u).1++s.s1:=by
 have kx:kd (aF v) [s.l] q.x=p.x:=h.ax;have ky:kd (aF v) [s.l] q.y=p.y:=h.ay;have tx:=hl.tx;have ty:=hl.ty;rw[s0]at tx;rw[t0]at ty;constructor
 ·rw[jC,kx,tx];show _++((aW v (kd (aF v) [s.l] q.x) p.s s.l).1++[])=_;rw[kx,h.sx,append_nil]
 ·rw[jC,ky,ty];show _++((aW v (kd (aF v) [s.l] q.y) p.t s.l).1++[])=_;rw[ky,h.sy,append_nil]
theorem zF{v:View}{pairs:List Pair}{found:List fH}(h:HP v pairs found):∀(n i:Nat) (f:fH),i<n->found[i]?=some f->∃u p0 q e,Held v pairs found i f u p0 q e
 | 0,i,f,hi,_=>by omega
 | n+1,i,f,hi,hf=>by
  obtain⟨q,hq,hc⟩:=h i f hf;rcases hc with ⟨c1,c2,c3,c4,c5⟩ | ⟨j,g,p,s,c1,c2,c3,c4,c5,c6,c7,c8⟩
  ·refine⟨[],q,q,[],hq,Wo.start hf c1,Lead.refl v q,c4,c5,?_,?_,?_⟩
   ·rw[c2];rfl
   ·rw[c3];rfl
   ·rw[c2];simp[common]
  ·obtain⟨u,p0,p',e,k⟩:=zF h n j g (by omega) c3;have:p'=p:=by
    have:=k.pq;rw[c4]at this;injection this with this;exact this.symm
   subst this;obtain⟨r1,r2⟩:=aBz c5 k.s0 k.t0 k.ld;refine⟨u++[f.l],p0,q,e++(g.h0++s.s0).take (common (g.h0++s.s0) (g.h1++s.s1)),hq,Wo.step hf c1 k.wo,?_,k.s0,k.t0,?_,?_,?_⟩
   ·rw[c6];exact k.ld.trans c5.lead
   ·rw[c6,r1,k.ox,c7,append_assoc,append_assoc,take_append_drop]
   ·rw[c6,r2,k.oy,c8,append_assoc,append_assoc,Bo,take_append_drop]
   ·rw[c7,c8];exact Bl _ _
theorem JF{one other:aA}{least size c:Nat}:∀(k i:Nat),iT one other least size k i=(c,false)->∀j,i<=j->j<i+k->Ba one j=Ba other j
 | 0,i,_,j,h1,h2=>by omega
 | k+1,i,h,j,h1,h2=>by
  rw[iT]at h;split at h
  ·rename_i he;rcases Nat.eq_or_lt_of_le h1 with rfl | h3
   ·exact he
   ·exact JF k (i+1) h j h3 (by omega)
  ·split at h
   ·cases h
   ·cases h
theorem Eb(hlt:other.ro.length<one.ro.length):outgrow one other≠some (c,false):=by
 unfold outgrow;simp only[];split
 ·intro h;injection h with h;injection h with h1 h2;have:=of_decide_eq_false h2;omega
 ·intro h;cases h
theorem Ec(h:ahead' one other=some (c,false)):one.ro.length=other.ro.length∧(one.ro.length=0∨∀i,i<max one.tt.length other.tt.length+one.ro.length->Ba one i=Ba other i):=by
 unfold ahead' at h;split at h
 ·rename_i he;refine⟨he,?_⟩;simp only[]at h;split at h
  ·rename_i h0;exact Or.inl h0
  ·injection h with h;exact Or.inr fun i hi=>JF _ 0 h i (by omega) (by omega)
 ·split at h
  ·rename_i hlt;exact absurd h (Eb hlt)
  ·exact absurd h (Eb (by omega))
theorem Ai(hx:∀i,i<N->(T1++Q1)[i]?=(T2++Q2)[i]?)(n1:T1.length<=N)(n2:T2.length<=N)(e1:T1=e++h0)(e2:T2=e++h1)(hb:common h0 h1=0):(h0=[]∧h1 <+: Q1)∨(h1=[]∧h0 <+: Q2):=by
 have ht:(T1++Q1).take N=(T2++Q2).take N:=by
  apply ext_getElem?;intro i;rw[getElem?_take,getElem?_take];split
  ·rename_i hi;exact hx i hi
  ·rfl
 rw[take_append,take_append,take_of_length_le n1,take_of_length_le n2]at ht;have p1:T1 <+: T1++Q1.take (N-T1.length):=prefix_append _ _;have p2:T2 <+: T1++Q1.take (N-T1.length):=by rw[ht];exact prefix_append _ _
 have key:∀a b:By,a <+: b->common a b=0->a=[]:=fun a b hab hc=>by
  obtain⟨t,rfl⟩:=hab;have:=nV a [] t;rw[append_nil,hc]at this;exact length_eq_zero_iff.1 (by omega)
 have aEP:∀a b:By,common a b=0->common b a=0:=fun a b=>by
  match a,b with
  | [],[]=>exact id
  | [],_::_=>intro _;simp[common]
  | _::_,[]=>intro _;simp[common]
  | x::a,y::b=>
   intro h;rw[common]at h ⊢;split at h
   ·omega
   ·rename_i hne;rw[aU (fun e=>hne e.symm)]
 rcases lZ p1 p2 with h | h
 ·left;have hz:h0=[]:=by
   rw[e1,e2]at h;exact key _ _ (jY.1 h) hb
  refine⟨hz,?_⟩;have et:T2=T1++h1:=by rw[e1,e2,hz,append_nil]
  rw[et]at p2;exact(jY.1 p2).trans (take_prefix _ _)
 ·right;have hz:h1=[]:=by
   rw[e1,e2]at h;exact key _ _ (jY.1 h) (aEP _ _ hb)
  refine⟨hz,?_⟩;have et:T1=T2++h0:=by rw[e1,e2,hz,append_nil]
  rw[ht,et]at p1;exact(jY.1 p1).trans (take_prefix _ _)
theorem Ed(hr:one.ro.length=other.ro.length)(h0:one.ro.length≠0)(hw:∀i,i<N->Ba one i=Ba other i)(hm:N<=m)(i:Nat)(hi:i<N):(says one m)[i]?=(says other m)[i]?:=by
 have hb:∀w:aA,w.ro.length=one.ro.length->i<w.tt.length+m*w.ro.length:=fun w hw=>by
  rw[hw];have:=Nat.le_mul_of_pos_right m (Nat.pos_of_ne_zero h0);omega
 obtain⟨c1,a1,a2⟩:=KG (hb one rfl);obtain⟨c2,b1,b2⟩:=KG (hb other hr.symm);have:=hw i hi;rw[a2,b2]at this;rw[a1,b1,UInt8.toNat_inj.1 this]
theorem Np(h:(h0=[]∧h1 <+: Q1)∨(h1=[]∧h0 <+: Q2))(g:(g0=[]∧g1 <+: Q1)∨(g1=[]∧g0 <+: Q2))(hd:h0.length+g1.length=g0.length+h1.length):h0=g0∧h1=g1:=by
 have eqp:∀{a b c:By},a <+: c->b <+: c->a.length=b.length->a=b:=fun ha hb hl=>by
  rcases lZ ha hb with h | h
  ·exact h.eq_of_length hl
  ·exact(h.eq_of_length hl.symm).symm
 rcases h with ⟨rfl,a⟩ | ⟨rfl,a⟩
 ·rcases g with ⟨rfl,b⟩ | ⟨rfl,b⟩
  ·exact⟨rfl,eqp a b (by simp only[length_nil]at hd;omega)⟩
  ·simp only[length_nil]at hd;have h1':g0=[]:=length_eq_zero_iff.1 (by omega);have h2':h1=[]:=length_eq_zero_iff.1 (by omega);exact⟨h1'.symm,h2'⟩
 ·rcases g with ⟨rfl,b⟩ | ⟨rfl,b⟩
  ·have hd':h0.length+g1.length=0:=hd;have h1':h0=[]:=length_eq_zero_iff.1 (by omega);have h2':g1=[]:=length_eq_zero_iff.1 (by omega);exact⟨h1',h2'.symm⟩
  ·exact⟨eqp a b (by simp only[length_nil]at hd;omega),rfl⟩
theorem WS(a:e++h0=e'++g0)(b:e++h1=e'++g1)(hb:common h0 h1=0)(hb':common g0 g1=0):h0=g0∧h1=g1:=by
 have key:∀{e e' h0 h1 g0 g1:By},e++h0=e'++g0->e++h1=e'++g1->common h0 h1=0->e.length<=e'.length->h0=g0∧h1=g1:=fun {e e' h0 h1 g0 g1} a b hb hl=>by
  have hp:=prefix_of_prefix_length_le ⟨h0,a⟩ ⟨g0,rfl⟩ hl;obtain⟨t,rfl⟩:=hp;rw[append_assoc]at a b;have a':=append_cancel_left a;have b':=append_cancel_left b;have:=nV t g0 g1;rw[<-a',<-b',hb]at this;have ht:t=[]:=length_eq_zero_iff.1 (by omega);rw[ht]at a' b';exact⟨a',b'⟩
 rcases Nat.le_total e.length e'.length with h | h
 ·exact key a b hb h
 ·obtain⟨k1,k2⟩:=key a.symm b.symm hb' h;exact⟨k1.symm,k2.symm⟩
theorem lg(y:By)(hy:y.length≠0)(m:Nat):m<=(rep y m).length:=by
 rw[wM];exact Nat.le_mul_of_pos_right m (Nat.pos_of_ne_zero hy)
theorem oI{a b c:By}(h:a <+: b++c)(hl:a.length<=b.length):a <+: b:=prefix_of_prefix_length_le h (prefix_append b c) hl
theorem RS(h:ahead' ⟨T1,IL,re1⟩ ⟨T2,RQ,re2⟩=some (c,false))(a:T1=e++h0)(b:T2=e++h1)(hb:common h0 h1=0)(a':T1++IL=e'++g0)(b':T2++RQ=e'++g1)(hb':common g0 g1=0):h0=g0∧h1=g1:=by
 obtain⟨hr,hc⟩:=Ec h;simp only at hr hc;by_cases hz:IL.length=0
 ·have z1:IL=[]:=length_eq_zero_iff.1 hz;have z2:RQ=[]:=length_eq_zero_iff.1 (by omega);rw[z1,append_nil,a]at a';rw[z2,append_nil,b]at b';exact WS a' b' hb hb'
 ·have hw:=hc.resolve_left hz;obtain⟨N,hN⟩:=eX (max T1.length T2.length+IL.length);rw[<-hN]at hw;have n1:T1.length+IL.length<=N:=by omega
  have n2:T2.length+IL.length<=N:=by omega
  have hag:=Ed (one:=⟨T1,IL,re1⟩) (other:=⟨T2,RQ,re2⟩) hr hz hw (Nat.le_succ N);have l1:=congrArg length a;have l2:=congrArg length b;have l3:=congrArg length a';have l4:=congrArg length b';rw[length_append]at l1 l2;rw[length_append,length_append]at l3 l4;have r1:∀y:By,rep y (N+1)=y++rep y N:=fun y=>rfl
  have r2:∀y:By,rep y (N+1)=rep y N++y:=fun y=>by rw[KF];simp[rep]
  have k1:=Ai (T1:=T1) (T2:=T2) (Q1:=rep IL (N+1)++re1) (Q2:=rep RQ (N+1)++re2) hag (by omega) (by omega) a b hb;have k2:=Ai (T1:=T1++IL) (T2:=T2++RQ) (Q1:=rep IL N++re1) (Q2:=rep RQ N++re2) (N:=N) (fun i hi=>by
   have:=hag i hi
   unfold says at this
   simp only[r1,append_assoc]at this
   simp only[append_assoc]
   exact this) (by rw[length_append];omega) (by rw[length_append];omega) a' b' hb'
  have q1:=lg IL hz N;have q2:=lg RQ (by omega) N;have q3:=lg IL hz (N+1);have q4:=lg RQ (by omega) (N+1);have k1':(h0=[]∧h1 <+: rep IL (N+1))∨(h1=[]∧h0 <+: rep RQ (N+1)):=k1.imp (fun⟨x,y⟩=>⟨x,oI y (by omega)⟩) (fun⟨x,y⟩=>⟨x,oI y (by omega)⟩);have k2':(g0=[]∧g1 <+: rep IL (N+1))∨(g1=[]∧g0 <+: rep RQ (N+1)):=k2.imp (fun⟨x,y⟩=>⟨x,by rw[r2];exact(oI y (by omega)).trans (prefix_append _ _)⟩) (fun⟨x,y⟩=>⟨x,by rw[r2];exact(oI y (by omega)).trans (prefix_append _ _)⟩);exact Np k1' k2' (by omega)
theorem Nq{O1 O2:By}(h:ahead' ⟨T1++O1,IL,re1⟩ ⟨T2++O2,RQ,re2⟩=some (c,false))(hz:IL.length≠0∨RQ.length≠0)(a:T1=e++h0)(b:T2=e++h1)(hb:common h0 h1=0)(hm:(T1++O1).length+(T2++O2).length+IL.length<=m):(h0=[]∧h1 <+: O1++(rep IL m++re1))∨(h1=[]∧h0 <+: O2++(rep RQ m++re2)):=by
 obtain⟨hr,hc⟩:=Ec h;simp only at hr hc;have hz1:IL.length≠0:=by omega
 have hw:=hc.resolve_left hz1;obtain⟨N,hN⟩:=eX (max (T1++O1).length (T2++O2).length+IL.length);rw[<-hN]at hw;have n1:T1.length<=(T1++O1).length:=by rw[length_append];omega
 have n2:T2.length<=(T2++O2).length:=by rw[length_append];omega
 have hag:=Ed (one:=⟨T1++O1,IL,re1⟩) (other:=⟨T2++O2,RQ,re2⟩) hr hz1 hw (m:=m) (by omega);refine Ai (T1:=T1) (T2:=T2) (N:=N) (fun i hi=>?_) (by omega) (by omega) a b hb;have:=hag i hi;unfold says at this;simp only[append_assoc]at this ⊢;exact this
inductive Ch(found:List fH)(k:Nat):Int->List Nat->Prop
 | nil {i:Int}:i<0->Ch found k i []
 | cons {n:Nat} {x:fH} {l:List Nat}:found[n]?=some x->x.pair=k->x.before<(n:Int)->Ch found k x.before l->Ch found k (n:Int) (n::l)
theorem Ch.more{i:Int}(h:Ch found k i l)(F:fH):Ch (found++[F]) k i l:=by
 induction h with
 | nil h=>exact Ch.nil h
 | cons a b c _ ih=>exact Ch.cons (by rw[jG (bU a).1];exact a) b c ih
theorem Ch.len{i:Int}(h:Ch found k i l):l=[]∨(l.length:Int)<=i+1:=by
 induction h with
 | nil _=>exact Or.inl rfl
 | cons a b c d ih=>
  right;rw[length_cons];rcases ih with ih | ih
  ·subst ih;simp;omega
  ·omega
theorem RU{i:Int}(h:Ch found k i l):∀f,l.length<f->∃b,seen found h0 h1 f i=some b∧(b=false->∀n∈l,∀x,found[n]?=some x->¬(x.h0=h0∧x.h1=h1)):=by
 induction h with
 | nil hi=>
  intro f hf;obtain⟨g,rfl⟩:∃g,f=g+1:=⟨f-1,by omega⟩;exact⟨false,by rw[seen,aP hi],fun _ n hn=>by cases hn⟩
 | @cons n x l a b c d ih=>
  intro f hf;obtain⟨g,rfl⟩:∃g,f=g+1:=⟨f-1,by omega⟩;rw[length_cons]at hf;rw[seen,aU (by omega),Int.toNat_natCast,a];simp only[];by_cases hc:x.h0=h0∧x.h1=h1
  ·exact⟨true,by simp[hc.1,hc.2],fun h=>by cases h⟩
  ·obtain⟨bb,e1,e2⟩:=ih g (by omega);refine⟨bb,?_,fun hb m hm y hy=>?_⟩
   ·rw[aU]
    ·exact e1
    ·simp only[Bool.and_eq_true,decide_eq_true_eq];exact hc
   ·rcases mem_cons.1 hm with rfl | hm
    ·rw[a]at hy;cases hy;exact hc
    ·exact e2 hb m hm y hy
structure FI(np:Nat)(on:List Int)(found:List fH)(last:List Nat):Prop where
 ll:last.length=np
 ch:∀k,k<np->∃l,Ch found k ((gn last k:Int)-1) l∧∀(n:Nat) (f:fH),found[n]?=some f->f.pair=k->n∈l
 le:∀k,gn last k<=found.length
 pr:∀f∈found,f.pair<np∧0<=gi on f.pair
 one:∀(n n':Nat) (f f':fH),found[n]?=some f->found[n']?=some f'->f.pair=f'.pair->f.h0=f'.h0->f.h1=f'.h1->n=n'
theorem RV(hon:on.length=np)(h:FI np on found last){pair:Nat}(hp:pair<np)(hl:found.length<2199023000000)(h0 h1:By)(fr:Int)(l:Nat):∃f2 l2,uZ on found last pair h0 h1 fr l=some (f2,l2)∧FI np on f2 l2∧(f2=found∨∃b,0<=gi on pair∧f2=found++[⟨pair,h0,h1,fr,l,b⟩]):=by
 have hll:=h.ll;unfold uZ;rw[VD (by omega),VE (by omega)];simp only[];by_cases ho:gi on pair<0
 ·rw[aP ho];exact⟨_,_,rfl,h,Or.inl rfl⟩
 ·have hle:=h.le pair;rw[aU ho,aP ⟨by omega,by omega⟩];obtain⟨ls,c1,c2⟩:=h.ch pair hp;have hlen:ls.length<=found.length:=by
   rcases c1.len with e | e
   ·rw[e];simp
   ·omega
  obtain⟨b,e1,e2⟩:=RU (h0:=h0) (h1:=h1) c1 10000000000000 (by omega);rw[e1];rcases hb:b with _ | _
  ·simp only[];have hF:∀n f,(found++[(⟨pair,h0,h1,fr,l,(gn last pair:Int)-1⟩:fH)])[n]?=some f->found[n]?=some f∨(n=found.length∧f=⟨pair,h0,h1,fr,l,(gn last pair:Int)-1⟩):=fun n f hn=>by
    rcases iK n found.length with hlt | hge
    ·rw[jG hlt]at hn;exact Or.inl hn
    ·right;have hn':=(bU hn).1;rw[length_append,length_singleton]at hn';have:n=found.length:=by omega
     subst this;rw[mW (dH _),Nat.sub_self]at hn;simp at hn;exact⟨rfl,hn.symm⟩
   have hno:=fun(n:Nat) (f:fH) (hn:found[n]?=some f) (hpr:f.pair=pair)=>e2 hb n (c2 n f hn hpr) f hn
   have gl:∀k,gn (last.set pair (found.length+1)) k=if pair=k then found.length+1 else gn last k:=Yu (by omega) _
   refine⟨_,_,rfl,⟨by rw[length_set];exact hll,fun k hk=>?_,fun k=>?_,fun f hf=>?_,fun n n' f f' hn hn' a1 a2 a3=>?_⟩,Or.inr ⟨_,by omega,rfl⟩⟩
   ·rw[gl];by_cases e:pair=k
    ·subst e;rw[aP rfl];refine⟨found.length::ls,?_,fun n f hn hpr=>?_⟩
     ·have:((found.length+1:Nat):Int)-1=(found.length:Int):=by omega
      rw[this];exact Ch.cons (x:=⟨pair,h0,h1,fr,l,(gn last pair:Int)-1⟩) (by simp) rfl (by simp only;omega) (c1.more _)
     ·rcases hF n f hn with h3 | ⟨h3,-⟩
      ·exact mem_cons_of_mem _ (c2 n f h3 hpr)
      ·rw[h3];exact mem_cons_self
    ·rw[aU e];obtain⟨l2,d1,d2⟩:=h.ch k hk;refine⟨l2,d1.more _,fun n f hn hpr=>?_⟩;rcases hF n f hn with h3 | ⟨-,h3⟩
     ·exact d2 n f h3 hpr
     ·rw[h3]at hpr;exact absurd hpr e
   ·rw[gl,length_append,length_singleton];have:=h.le k;split <;> omega
   ·rcases mem_append.1 hf with hf | hf
    ·exact h.pr f hf
    ·simp at hf;subst hf;exact⟨hp,by simp only;omega⟩
   ·rcases hF n f hn with b1 | ⟨b1,b2⟩
    ·rcases hF n' f' hn' with d1 | ⟨d1,d2⟩
     ·exact h.one n n' f f' b1 d1 a1 a2 a3
     ·subst d2;exact absurd ⟨a2,a3⟩ (hno n f b1 a1)
    ·rcases hF n' f' hn' with d1 | ⟨d1,d2⟩
     ·subst b2;exact absurd ⟨a2.symm,a3.symm⟩ (hno n' f' d1 a1.symm)
     ·omega
  ·simp only[];exact⟨_,_,rfl,h,Or.inl rfl⟩
inductive An(found:List fH):Nat->List Nat->Prop
 | start {i:Nat} {f:fH}:found[i]?=some f->f.fr=-1->An found i [i]
 | step {i j:Nat} {f:fH} {l:List Nat}:found[i]?=some f->f.fr=(j:Int)->j<i->An found j l->An found i (i::l)
inductive Wf(found:List fH)(k:Nat):Nat->List Nat->Prop
 | start:Wf found k k []
 | step {i j:Nat} {f:fH} {u:List Nat}:found[i]?=some f->f.fr=(j:Int)->Wf found k j u->Wf found k i (u++[f.l])
section
variable {found:List fH}
theorem aEQ(h:Wf found k i w)(hk:Wo found k u):Wo found i (u++w):=by
 induction h with
 | start=>simpa using hk
 | step a b _ ih=>
  rw[<-append_assoc];exact Wo.step a b ih
theorem aBA(hp:HP v pairs found)(h:Wf found k i w)(hk:found[k]?=some fk)(hpk:pairs[fk.pair]?=some p):∃f q,found[i]?=some f∧pairs[f.pair]?=some q∧Lead v p w q:=by
 induction h with
 | start=>exact⟨fk,p,hk,hpk,Lead.refl v p⟩
 | @step i j f u a b _ ih=>
  obtain⟨g,q,e1,e2,e3⟩:=ih;obtain⟨q',c0,c⟩:=hp i f a;rcases c with ⟨c1,-⟩ | ⟨j',g',p',s,c1,-,c3,c4,c5,c6,-⟩
  ·omega
  ·have:j=j':=by omega
   subst this;rw[e1]at c3;cases c3;rw[e2]at c4;cases c4;refine⟨f,q',a,c0,?_⟩;rw[c6];exact e3.trans c5.lead
theorem KR{u':List Nat}(h:Wo found i u)(h':Wo found i u'):u=u':=by
 induction h generalizing u' with
 | start a b=>
  cases h' with
  | start=>rfl
  | step a' b' _=>
   rw[a]at a';cases a';omega
 | @step i j f u a b c ih=>
  cases h' with
  | start a' b'=>
   rw[a]at a';cases a';omega
  | @step _ j' f' u2 a' b' c'=>
   rw[a]at a';cases a';have:j=j':=by omega
   subst this;rw[ih c']
theorem o6{l:Nat}(hl:l<4):(aT l).length=1:=by
 match l,hl with
 | 0,_=>rfl
 | 1,_=>rfl
 | 2,_=>rfl
 | 3,_=>rfl
theorem An.head(h:An found i l):∃t,l=i::t:=by
 cases h
 ·exact⟨[],rfl⟩
 ·exact⟨_,rfl⟩
theorem An.le(h:An found i l):∀j∈l,j<=i:=by
 induction h with
 | start _ _=>intro j hj;simp at hj;omega
 | step _ _ c _ ih=>
  intro j hj;rcases mem_cons.1 hj with rfl | hj
  ·exact dH _
  ·have:=ih j hj;omega
theorem o7(hl4:∀f∈found,f.l<4)(h:An found i l):∀(n:Nat) (acc:By),l.length<n->acc.length+l.length<=100000->∃t,eF found (-1) n (i:Int) acc=some (t++acc)∧t.length<l.length∧Wo found i (ak t)∧Wb t:=by
 induction h with
 | @start i f a b=>
  intro n acc hn ha;obtain⟨m,rfl⟩:∃m,n=m+2:=⟨n-2,by simp at hn;omega⟩;simp only[length_singleton]at ha;refine⟨[],?_,by simp,Wo.start a b,(fun c hc=>by cases hc)⟩;rw[eF,aU (by omega),Int.toNat_natCast,a];simp only[];rw[aP ⟨hl4 f (iI a),by omega⟩,b,eF,aP (by omega),aU (by omega)];rfl
 | @step i j f l a b c d ih=>
  intro n acc hn ha;obtain⟨m,rfl⟩:∃m,n=m+1:=⟨n-1,by omega⟩;rw[length_cons]at hn ha;have h4:=hl4 f (iI a);have h1:=o6 h4;obtain⟨t,e1,e2,e3,e4⟩:=ih m (aT f.l++acc) (by omega) (by rw[length_append];omega);refine⟨t++aT f.l,?_,by rw[length_append,length_cons];omega,?_,nO e4 (kU h4)⟩
  ·rw[eF,aU (by omega),Int.toNat_natCast,a];simp only[];rw[aP ⟨h4,by omega⟩,b,aP (by omega),e1,append_assoc]
  ·rw[gQ,jZ h4];exact Wo.step a b e3
theorem JG(hl4:∀f∈found,f.l<4)(h:An found i l) :∀(n:Nat) (acc:By),k∈l->l.length<n->acc.length+l.length<=100000->∃t,eF found (k:Int) n (i:Int) acc=some (t++acc)∧t.length<l.length∧Wf found k i (ak t)∧Wb t:=by
 have here:∀(n:Nat) (acc:By) (l:List Nat),0<l.length->l.length<n->∃t,eF found (k:Int) n (k:Int) acc=some (t++acc)∧t.length<l.length∧Wf found k k (ak t)∧Wb t:=fun n acc l h0 hn=>by
  obtain⟨m,rfl⟩:∃m,n=m+1:=⟨n-1,by omega⟩;exact⟨[],by rw[eF,aP (Or.inr rfl)];rfl,by simpa using h0,Wf.start,(fun c hc=>by cases hc)⟩
 induction h with
 | @start i f a b=>
  intro n acc hk hn ha;simp at hk;subst hk;exact here n acc _ (by simp) hn
 | @step i j f l a b c d ih=>
  intro n acc hk hn ha;by_cases e:k=i
  ·subst e;exact here n acc _ (by simp) hn
  ·have hk':k∈l:=by
    rcases mem_cons.1 hk with h | h
    ·exact absurd h e
    ·exact h
   obtain⟨m,rfl⟩:∃m,n=m+1:=⟨n-1,by omega⟩;rw[length_cons]at hn ha;have h4:=hl4 f (iI a);have h1:=o6 h4;obtain⟨t,e1,e2,e3,e4⟩:=ih m (aT f.l++acc) hk' (by omega) (by rw[length_append];omega);refine⟨t++aT f.l,?_,by rw[length_append,length_cons];omega,?_,nO e4 (kU h4)⟩
   ·rw[eF,aU (by omega),Int.toNat_natCast,a];simp only[];rw[aP ⟨h4,by omega⟩,b,aP (by omega),e1,append_assoc]
   ·rw[gQ,jZ h4];exact Wf.step a b e3
end
inductive Pa(steps:List Stp)(on:List Int)(a:Nat):List Nat->By->By->Nat->Prop
 | nil:Pa steps on a [] [] [] a
 | step {u:List Nat} {o0 o1:By} {k:Nat} {s:Stp}:Pa steps on a u o0 o1 k->0<=gi on k->steps[(gi on k).toNat]?=some s->s.fr=k->Pa steps on a (u++[s.l]) (o0++s.s0) (o1++s.s1) s.tt
theorem VG{g:Gr}(hg:GI v g){b:Nat}(h:Pa g.steps on a u o0 o1 b)(hp:g.pairs[a]?=some p):∃q,g.pairs[b]?=some q∧Lead v p u q∧(dJ (aF v) q.x p.s u).1=o0∧(dJ (aF v) q.y p.t u).1=o1:=by
 induction h with
 | nil=>exact⟨p,hp,Lead.refl v p,rfl,rfl⟩
 | @step u o0 o1 k s h1 _ h2 h3 ih=>
  obtain⟨q,e1,e2,e3,e4⟩:=ih;obtain⟨p',q',f1,f2,f3⟩:=hg.st s (iI h2);rw[h3,e1]at f1;cases f1;have kx:kd (aF v) [s.l] q'.x=q.x:=f3.ax;have ky:kd (aF v) [s.l] q'.y=q.y:=f3.ay;refine⟨q',f2,e2.trans f3.lead,?_,?_⟩
  ·rw[jC,kx,e2.tx,e3];show _++((aW v (kd (aF v) [s.l] q'.x) q.s s.l).1++[])=_;rw[kx,f3.sx,append_nil]
  ·rw[jC,ky,e2.ty,e4];show _++((aW v (kd (aF v) [s.l] q'.y) q.t s.l).1++[])=_;rw[ky,f3.sy,append_nil]
theorem WT{np:Nat}(f1:∀k,0<=gi on k↔gn far k≠0)(f2:∀k,gn far k≠0->∃s,steps[(gi on k).toNat]?=some s∧s.fr=k∧((gn far k=1∧silent s=false∧0<=gi on s.tt)∨(1<gn far k∧gn far s.tt=gn far k-1))){b:Nat}(h:Pa steps on a u o0 o1 b)(h0:o0=[])(h1:o1=[]):gn far b+u.length=gn far a:=by
 have _:=np
 induction h with
 | nil=>simp
 | @step u o0 o1 k s _ h2 h3 _ ih=>
  obtain⟨a1,a2⟩:=append_eq_nil_iff.1 h0;obtain⟨b1,b2⟩:=append_eq_nil_iff.1 h1;have:=ih a1 b1;obtain⟨s',c1,c2,c3⟩:=f2 k ((f1 k).1 h2);rw[h3]at c1;cases c1;rw[length_append,length_singleton];rcases c3 with ⟨-,d,-⟩ | ⟨d1,d2⟩
  ·unfold silent at d;rw[a2,b2]at d;cases d
  ·omega
theorem Ee(fr:Nat):∀(met:List Nat) (i:Nat),idx fr met i=none->fr∉met
 | [],_,_=>by simp
 | x::met,i,h=>by
  rw[idx]at h;split at h
  ·cases h
  ·rename_i hx;intro hm;rcases mem_cons.1 hm with e | e
   ·exact hx e.symm
   ·exact Ee fr met (i+1) h e
theorem yE{x:Nat}(h:l.Nodup)(hx:x∉l):(l++[x]).Nodup:=by
 rw[nodup_append];refine⟨h,by simp,fun a ha b hb e=>?_⟩;simp at hb;exact hx (by rw[<-hb,<-e];exact ha)
theorem zG{steps:List Stp}{np:Nat}{on:List Int}(ho:YV steps np on on)(hnp:np<=9216)(hst:StV np steps)(h4:∀s∈steps,s.l<4){here:Nat}:∀(n:Nat) (met:List Nat) (w:By) (fr:Nat),np<n+met.length->met.Nodup->(∀x∈met,x<np)->w.length=met.length->Wb w->fr<np->0<=gi on fr ->(∃o0 o1,Pa steps on here (ak w) o0 o1 fr)->(∀i k,met[i]?=some k->(∃o0 o1,Pa steps on here (ak (w.take i)) o0 o1 k)∧∃o0 o1,Pa steps on k (ak (w.drop i)) o0 o1 fr) ->∃a b en,bY on steps n met w fr=some (a,b,en)∧a.length<=np∧b.length<=np∧Wb a∧Wb b∧b≠[]∧(∃o0 o1,Pa steps on here (ak a) o0 o1 en)∧∃o0 o1,Pa steps on en (ak b) o0 o1 en
 | 0,met,w,fr,h1,h2,h3,_,_,_,_,_,_=>by
  have:=mX np met h2 h3;omega
 | n+1,met,w,fr,h1,h2,h3,hw,hb,hf,hgi,hpa,hps=>by
  have hml:=mX np met h2 h3;have hol:=ho.len;rw[bY,VD (by omega)];simp only[];rw[aU (by omega)];rcases hi:idx fr met 0 with _ | i
  ·simp only[];obtain⟨far,f1,f2⟩:=ho.rank;obtain⟨s,c1,c2,c3⟩:=f2 fr ((f1 fr).1 hgi);have hm:=iI c1;rw[c1];simp only[];have hl:=h4 s hm;rw[aP ⟨hl,by omega⟩];have htt:0<=gi on s.tt:=by
    rcases c3 with ⟨-,-,d⟩ | ⟨d1,d2⟩
    ·exact d
    ·exact(f1 s.tt).2 (by omega)
   have hl1:=o6 hl;have hnew:∀(a:Nat) (u:By),(∃o0 o1,Pa steps on a (ak u) o0 o1 fr)->∃o0 o1,Pa steps on a (ak (u++aT s.l)) o0 o1 s.tt:=fun a u ⟨o0,o1,hp⟩=>by
    rw[gQ,jZ hl];exact⟨_,_,Pa.step hp hgi c1 c2⟩
   refine zG ho hnp hst h4 n (met++[fr]) (w++aT s.l) s.tt (by rw[length_append,length_singleton];omega) (yE h2 (Ee fr met 0 hi)) (fun x hx=>?_) (by rw[length_append,length_append,length_singleton,hw,hl1]) (nO hb (kU hl)) (hst s hm).2 htt (hnew here w hpa) (fun i k hk=>?_)
   ·rcases mem_append.1 hx with hx | hx
    ·exact h3 x hx
    ·simp at hx;omega
   ·rcases iK i met.length with hlt | hge
    ·rw[jG hlt]at hk;obtain⟨k1,k2⟩:=hps i k hk;rw[take_append_of_le_length (by omega),drop_append_of_le_length (by omega)];exact⟨k1,hnew k _ k2⟩
    ·have hk':=(bU hk).1;rw[length_append,length_singleton]at hk';have:i=met.length:=by omega
     subst this;rw[mW (dH _),Nat.sub_self]at hk;simp at hk;subst hk;rw[<-hw,take_left,drop_left];refine⟨hpa,?_⟩;have:=hnew fr [] ⟨[],[],Pa.nil⟩;simpa using this
  ·simp only[];obtain⟨-,hm⟩:=EP fr met 0 i hi;rw[Nat.sub_zero]at hm;have hil:=(bU hm).1;obtain⟨k1,k2⟩:=hps i fr hm;refine⟨_,_,_,rfl,by rw[length_take];omega,by rw[length_drop];omega,fun c hc=>hb c (mem_of_mem_take hc),fun c hc=>hb c (mem_of_mem_drop hc),?_,k1,k2⟩;intro e;have:=congrArg length e;rw[length_drop]at this;simp at this;omega
theorem Yy(ho:YV steps np on on)(h:Pa steps on a u o0 o1 a)(hu:u≠[]):o0≠[]∨o1≠[]:=by
 obtain⟨far,f1,f2⟩:=ho.rank;by_cases h0:o0=[]
 ·right;intro h1;have:=WT (np:=np) f1 f2 h h0 h1;have:0<u.length:=length_pos_iff.2 hu;omega
 ·exact Or.inl h0
theorem gY{v:View}(hv:VF v)(b:Nat):∀(z:List Nat) (t:Nat),(dJ (aF v) b t z).1.length<=4*z.length
 | [],t=>by rw[dJ];simp
 | l::z,t=>by
  have h1:((aF v).st (kd (aF v) (l::z) b) t l).1.length<=4:=l7 hv _ _ _;have h2:=gY hv b z ((aF v).st (kd (aF v) (l::z) b) t l).2;rw[dJ];simp only[length_append,length_cons];omega
theorem mP(w:By):(ak w).length=w.length:=length_map _
def dV(v:View)(x y:By)(k:Nat)(re:By):aA:=⟨(dJ (aF v) k 0 (ak x)).1,(dJ (aF v) k (dJ (aF v) k 0 (ak x)).2 (ak y)).1,re⟩
theorem sW(hv:VF v)(hk:KW v)(hx:x.length<=20000)(hy:y.length<=20000)(hkn:k<v.k.ahead.length):∃re,xu v x y k=some (dV v x y k re)∧re.length<=96:=by
 have hw:k<v.k.words.length:=by rw[hk.len];exact hkn
 have hword:=hk.word k _ (bG hw);have WR:=hv.le;unfold xu;rw[bG hw];simp only[];rw[aP ⟨by omega,by omega,by omega,hkn⟩,mO hv x hkn];simp only[];have h4:=Ur (gK hv) k (ak x) 0 (by omega);rw[aP (by omega),mO hv y hkn,mO hv _ hv.pos];refine⟨_,rfl,?_⟩;have:=gY hv 0 (ak v.k.words[k]) (dJ (aF v) k 0 (ak x)).2;rw[mP]at this;omega
theorem JH(hv:VF v)(k:Nat)(re:By)(hx:x.length<=20000)(hy:y.length<=20000):(dV v x y k re).tt.length<=80000∧(dV v x y k re).ro.length<=80000:=by
 have h1:=gY hv k (ak x) 0;have h2:=gY hv k (ak y) (dJ (aF v) k 0 (ak x)).2;rw[mP]at h1 h2;unfold dV;simp only;omega
theorem Ef{one other:aA}{least size c:Nat}{b:Bool}:∀(k i:Nat),iT one other least size k i=(c,b)->c<=i+k+1
 | 0,i,h=>by rw[iT]at h;cases h;omega
 | k+1,i,h=>by
  rw[iT]at h;split at h
  ·have:=Ef k (i+1) h;omega
  ·split at h
   ·cases h;omega
   ·cases h;have:=Nat.div_le_self (i-least) size;omega
theorem wO(h:outgrow one other=some (c,b)):c<=other.tt.length+other.re.length:=by
 unfold outgrow at h;simp only[]at h;split at h
 ·cases h;omega
 ·rename_i hn;injection h with h;injection h with h _;rw[<-h];have g1:(1:Int)<=(one.ro.length:Int)-other.ro.length:=by omega
  have g2:(1:Int)<=(other.tt.length:Int)+other.re.length-one.tt.length-one.re.length:=by omega
  obtain⟨B,hB⟩:∃B:Int,B=(other.tt.length:Int)+other.re.length-one.tt.length-one.re.length:=⟨_,rfl⟩;obtain⟨G,hG⟩:∃G:Int,G=(one.ro.length:Int)-other.ro.length:=⟨_,rfl⟩;rw[<-hB,<-hG];rw[<-hB]at g2;rw[<-hG]at g1;have hle:(B+G-1)/G<=B:=by
   apply Int.ediv_le_of_le_mul (by omega);have:(B-1)*1<=(B-1)*G:=Int.mul_le_mul_of_nonneg_left g1 (by omega);have h2:(B-1)*G=B*G-G:=by rw[Int.sub_mul,Int.one_mul]
   rw[h2,Int.mul_one]at this;omega
  omega
theorem aBB(h:ahead' one other=some (c,b)):c<=one.tt.length+other.tt.length+one.re.length+other.re.length+one.ro.length+1:=by
 unfold ahead' at h;split at h
 ·simp only[]at h;split at h
  ·cases h;omega
  ·injection h with h;have:=Ef _ 0 h;omega
 ·split at h
  ·have:=wO h;omega
  ·have:=wO h;omega
theorem zH:∀(n:Nat) (w:pY),w.c<n->w.y.length<=20000->w.c<=1000000->w.x.length+20000*w.c<=1000000000000->∃r,settle n w=some r
 | 0,w,h,_,_,_=>by omega
 | n+1,w,h,hy,hc,hx=>by
  rw[settle];split
  ·rw[aP ⟨by omega,by omega,hc⟩];exact zH n _ (by simp only;omega) hy (by simp only;omega) (by simp only[length_append];omega)
  ·exact⟨_,rfl⟩
theorem Nr(one other:aA):∃c b,ahead' one other=some (c,b):=by
 have ho:∀a b:aA,∃c d,outgrow a b=some (c,d):=fun a b=>by
  unfold outgrow;simp only[];split
  ·exact⟨_,_,rfl⟩
  ·exact⟨_,_,rfl⟩
 unfold ahead';split
 ·simp only[];split
  ·exact⟨_,_,rfl⟩
  ·exact⟨_,_,rfl⟩
 ·split
  ·exact ho _ _
  ·exact ho _ _
theorem Bq(hv:VF v)(hk:KW v){at':Nat}(hp:pairs[at']?=some p)(hpv:PV v.k.ahead.length p)(hx:x.length<=20000)(hy:y.length<=20000):∃r,weigh v pairs x y at'=some r∧(r=none->∃re1 re2 c,ahead' (dV v x y p.x re1) (dV v x y p.y re2)=some (c,false)):=by
 obtain⟨re1,e1,l1⟩:=sW hv hk hx hy hpv.1;obtain⟨re2,e2,l2⟩:=sW hv hk hx hy hpv.2.2.1;obtain⟨a1,a2⟩:=JH hv p.x re1 hx hy;obtain⟨b1,b2⟩:=JH hv p.y re2 hx hy;have hre:∀k re,(dV v x y k re).re=re:=fun _ _=>rfl
 have hok:∀k re,(dV v x y k re).tt.length<=80000->(dV v x y k re).ro.length<=80000->re.length<=96->xK (dV v x y k re)=true:=fun k re h1 h2 h3=>by
  unfold xK;rw[Bool.and_eq_true,Bool.and_eq_true,decide_eq_true_eq,decide_eq_true_eq,decide_eq_true_eq,hre];omega
 obtain⟨c,b,hc⟩:=Nr (dV v x y p.x re1) (dV v x y p.y re2);have hcl:=aBB hc;rw[hre,hre]at hcl;unfold weigh;rw[hp];simp only[];rw[e1,e2];simp only[];rw[hok _ _ a1 a2 l1,hok _ _ b1 b2 l2];simp only[Bool.and_self,if_true];rw[hc];rcases b with _ | _
 ·exact⟨none,rfl,fun _=>⟨re1,re2,c,hc⟩⟩
 ·have w1:p.x<v.k.words.length:=by rw[hk.len];exact hpv.1
  have w2:p.y<v.k.words.length:=by rw[hk.len];exact hpv.2.2.1
  simp only[];rw[bG w1,bG w2];simp only[];obtain⟨r,hr⟩:=zH 1000000 ⟨x,y,v.k.words[p.x],v.k.words[p.y],c⟩ (by simp only;omega) hy (by simp only;omega) (by simp only;omega);rw[hr];exact⟨some r,rfl,fun h=>by cases h⟩
section
variable {v:View} {R:GG} {found:List fH}
def exA(v:View)(R:GG)(found:List fH)(i here k:Nat):Option (Option pY):=match eF found (-1) 100000 (k:Int) [],eF found (k:Int) 100000 (i:Int) []with
 | some tt,some round=>weigh v R.g.pairs tt round here
 | _,_=>none
def exB(v:View)(R:GG)(found:List fH)(i here:Nat):Option (Option pY):=match eF found (-1) 100000 (i:Int) [],bY R.on R.g.steps 100000 [] [] here with
 | some tt,some (on,round,en)=>if tt.length<=1000000∧on.length<=1000000 then weigh v R.g.pairs (tt++on) round en else none
 | _,_=>none
theorem Aj{j:Int}(hj:j<0)(n:Nat):fV v R found i here (n+1) j=exB v R found i here:=by
 rw[fV,aP hj];rfl
theorem Eg{j:Nat}(h:An found j l):∀n,l.length<n->(∃k fk,k∈l∧found[k]?=some fk∧fk.pair=here∧fV v R found i here n (j:Int)=exA v R found i here k)∨((∀k fk,k∈l->found[k]?=some fk->fk.pair≠here)∧fV v R found i here n (j:Int)=exB v R found i here):=by
 induction h with
 | @start j f a b=>
  intro n hn;obtain⟨m,rfl⟩:∃m,n=m+2:=⟨n-2,by simp at hn;omega⟩;rw[fV,aU (by omega),Int.toNat_natCast,a];simp only[];by_cases e:f.pair=here
  ·rw[aP e];exact Or.inl ⟨j,f,by simp,a,e,rfl⟩
  ·rw[aU e,b,Aj (by omega)];refine Or.inr ⟨fun k fk hk hf=>?_,rfl⟩;simp at hk;subst hk;rw[a]at hf;cases hf;exact e
 | @step j j' f l a b c d ih=>
  intro n hn;obtain⟨m,rfl⟩:∃m,n=m+1:=⟨n-1,by omega⟩;rw[length_cons]at hn;rw[fV,aU (by omega),Int.toNat_natCast,a];simp only[];by_cases e:f.pair=here
  ·rw[aP e];exact Or.inl ⟨j,f,by simp,a,e,rfl⟩
  ·rw[aU e,b];rcases ih m (by omega)with ⟨k,fk,h1,h2,h3,h4⟩ | ⟨h1,h2⟩
   ·exact Or.inl ⟨k,fk,mem_cons_of_mem _ h1,h2,h3,h4⟩
   ·refine Or.inr ⟨fun k fk hk hf=>?_,h2⟩;rcases mem_cons.1 hk with rfl | hk
    ·rw[a]at hf;cases hf;exact e
    ·exact h1 k fk hk hf
def Qx(v:View)(p q:Pair)(a b:By):By:=(dJ (aF v) q.x p.s (ak a)).1++rep (dJ (aF v) q.x q.s (ak b)).1 240000
def Qy(v:View)(p q:Pair)(a b:By):By:=(dJ (aF v) q.y p.t (ak a)).1++rep (dJ (aF v) q.y q.t (ak b)).1 240000
structure Ns(v:View)(R:GG)(f:fH)(a b:By)(en:Nat)(p q:Pair):Prop where
 ci:bY R.on R.g.steps 100000 [] [] f.pair=some (a,b,en)
 pp:R.g.pairs[f.pair]?=some p
 pq:R.g.pairs[en]?=some q
 hd:(f.h0=[]∧f.h1 <+: Qx v p q a b)∨(f.h1=[]∧f.h0 <+: Qy v p q a b)
theorem WU(hv:VF v)(hk:KW v)(hx:GX v R)(hp:HP v R.g.pairs found)(hl4:∀f∈found,f.l<4)(hfi:FI R.g.pairs.length R.on found last)(h:An found i (i::l))(hlen:l.length<=9216)(hf:found[i]?=some f)(hkl:k∈l)(hki:k<i){lk:List Nat}(hak:An found k lk)(hlk:lk.length<=9216)(hfk:found[k]?=some fk)(hpk:fk.pair=f.pair):∃w,exA v R found i f.pair k=some (some w):=by
 obtain⟨tt,a1,a2,a3,a4⟩:=o7 hl4 hak 100000 [] (by omega) (by simp;omega);obtain⟨rd,b1,b2,b3,b4⟩:=JG hl4 h (k:=k) 100000 [] (mem_cons_of_mem _ hkl) (by simp;omega) (by simp;omega);rw[append_nil]at a1 b1;rw[length_cons]at b2;obtain⟨u,p0,q,e,H⟩:=zF hp (k+1) k fk (by omega) hfk;obtain⟨u',p0',q',e',H'⟩:=zF hp (i+1) i f (by omega) hf;have hq:q'=q:=by
  have h1:=H.pq;have h2:=H'.pq;rw[hpk,h2]at h1;exact dY h1
 subst hq;have hu:=KR H.wo a3;have hu':=KR H'.wo (aEQ b3 a3);obtain⟨f2,q2,c1,c2,c3⟩:=aBA hp b3 hfk H.pq;rw[hf]at c1;cases c1;have hq2:q2=q':=by rw[H'.pq]at c2;exact(dY c2).symm
 subst hq2;have hpv:=hx.ok.gi.ni.val q2 (iI H'.pq);obtain⟨r,w1,w2⟩:=Bq hv hk H'.pq hpv (x:=tt) (y:=rd) (by omega) (by omega);unfold exA;rw[a1,b1];simp only[];rw[w1];rcases r with _ | w
 ·exfalso;obtain⟨re1,re2,c,hno⟩:=w2 rfl;have ox:=H.ox;have oy:=H.oy;have ox':=H'.ox;have oy':=H'.oy;rw[hu]at ox oy;rw[hu',jC,c3.kx]at ox';rw[hu',jC,c3.ky]at oy';obtain⟨s1,s2⟩:=RS (T1:=(dJ (aF v) q2.x 0 (ak tt)).1) (T2:=(dJ (aF v) q2.y 0 (ak tt)).1) hno ox oy H.bare ox' oy' H'.bare;have:=hfi.one k i fk f hfk hf hpk s1 s2;omega
 ·exact⟨w,rfl⟩
theorem JI(hv:VF v)(hk:KW v)(hx:GX v R)(hp:HP v R.g.pairs found)(hl4:∀f∈found,f.l<4)(hfi:FI R.g.pairs.length R.on found last)(h:An found i l)(hlen:l.length<=9217)(hf:found[i]?=some f):∃r,exB v R found i f.pair=some r∧(r=none->∃a b en p q,Ns v R f a b en p q):=by
 obtain⟨tt,a1,a2,a3,a4⟩:=o7 hl4 h 100000 [] (by omega) (by simp;omega);rw[append_nil]at a1;obtain⟨g1,g2⟩:=hfi.pr f (iI hf);have hnp:=hx.np;have hs4:∀s∈R.g.steps,s.l<4:=fun s hs=>by
  obtain⟨_,_,_,_,hr⟩:=hx.ok.gi.st s hs;exact hr.l4
 obtain⟨a,b,en,c1,c2,c3,c4,c5,c6,⟨o0,o1,c7⟩,⟨r0,r1,c8⟩⟩:=zG hx.on hnp hx.sv hs4 (here:=f.pair) 100000 [] [] f.pair (by simp;omega) (by simp) (fun x hx=>by cases hx) rfl (fun c hc=>by cases hc) g1 g2 ⟨[],[],Pa.nil⟩ (fun i k hk=>by simp at hk);obtain⟨u,p0,p,e,H⟩:=zF hp (i+1) i f (by omega) hf;have hu:=KR H.wo a3;obtain⟨q,d1,d2,d3,d4⟩:=VG hx.ok.gi c7 H.pq;obtain⟨q',e1,e2,e3,e4⟩:=VG hx.ok.gi c8 d1;rw[d1]at e1;cases e1;have hpv:=hx.ok.gi.ni.val q (iI d1);obtain⟨r,w1,w2⟩:=Bq hv hk d1 hpv (x:=tt++a) (y:=b) (by rw[length_append];omega) (by omega);unfold exB;rw[a1,c1];simp only[];rw[aP ⟨by omega,by omega⟩,w1];refine⟨r,rfl,fun hr=>?_⟩;obtain⟨re1,re2,c,hno⟩:=w2 hr;have tx:(dJ (aF v) p.x 0 (ak tt)).2=p.s:=by have:=H.ld.tx;rwa [H.s0,hu]at this
 have ty:(dJ (aF v) p.y 0 (ak tt)).2=p.t:=by have:=H.ld.ty;rwa [H.t0,hu]at this
 have X1:dV v (tt++a) b q.x re1=⟨(dJ (aF v) p.x 0 (ak tt)).1++o0,r0,re1⟩:=by
  unfold dV;rw[gQ,jC,d2.kx,tx,d2.tx,d3,e3]
 have X2:dV v (tt++a) b q.y re2=⟨(dJ (aF v) p.y 0 (ak tt)).1++o1,r1,re2⟩:=by
  unfold dV;rw[gQ,jC,d2.ky,ty,d2.ty,d4,e4]
 rw[X1,X2]at hno;have hbu:ak b≠[]:=fun h=>c6 (map_eq_nil_iff.1 h)
 have hz:r0.length≠0∨r1.length≠0:=(Yy hx.on c8 hbu).imp (fun h h'=>h (length_eq_zero_iff.1 h')) (fun h h'=>h (length_eq_zero_iff.1 h'));have ox:=H.ox;have oy:=H.oy;rw[hu]at ox oy;have l1:=gY hv p.x (ak tt) 0;have l2:=gY hv p.y (ak tt) 0;have l3:=gY hv q.x (ak a) p.s;have l4:=gY hv q.y (ak a) p.t;have l5:=gY hv q.x (ak b) q.s;rw[mP]at l1 l2 l3 l4 l5;rw[d3]at l3;rw[d4]at l4;rw[e3]at l5;have hh:=Nq (m:=240000) hno hz ox oy H.bare (by rw[length_append,length_append];omega);have hrr:=(Ec hno).1;simp only at hrr;have q1:=congrArg length ox;have q2:=congrArg length oy;rw[length_append]at q1 q2;have m1:=lg r0 (by omega) 240000;have m2:=lg r1 (by omega) 240000;refine⟨a,b,en,p,q,c1,H.pq,d1,?_⟩;unfold Qx Qy;rw[d3,e3,d4,e4];refine hh.imp (fun⟨s1,s2⟩=>⟨s1,?_⟩) (fun⟨s1,s2⟩=>⟨s1,?_⟩)
 ·rw[<-append_assoc]at s2;exact oI s2 (by rw[length_append];omega)
 ·rw[<-append_assoc]at s2;exact oI s2 (by rw[length_append];omega)
end
end Th
end Go.Proofs.YtoebidlghdidoaaGreatDoor
