import Derived.Test.YtoebidlghdidoaaGreatDoorAG
namespace Go.Proofs.YtoebidlghdidoaaGreatDoor
open List
namespace Th
open aI (Rule isS lG num)
open M2 (View iL aT)
open M3 (view)
variable {v:View} {aC:List iL} {j:Nat} {q:iL} {l:List LR}
structure MFx(v:View)(aC:List iL):Prop where
 pos:1<=aC.length
 le:aC.length<=200
 four:∀q∈aC,q.sd.length=4∧q.nx.length=4
 inn:∀(j:Nat) (q:iL) (l:Nat),aC[j]?=some q->l<4->q.nx.getD l 0<aC.length
 num:zC aC.length aC 0 1=some aC.length
 one:∀i j,i<aC.length->j<aC.length->(∀z,Wd z->kC aC i z=kC aC j z)->i=j
 bare:∀j,j<aC.length->∀T:By,(∀z,Wd z->T <+: kC aC j z)->T=[]
 par:∀j,j<aC.length->∃(r:List Nat) (E:By),Wd r∧r.length<=j∧∀z,Wd z->R (aF v) (r.reverse++z)=E++kC aC j z
 all:∀z,Wd z->kC aC 0 z=R (aF v) z
theorem aBO(h:lC v aC):MFx v aC:=by
 obtain⟨s,a,b,met,o,h0,h1,h2⟩:=h.is;have hlen:=h1.len;have hget:∀{j:Nat} (hj:j<aC.length),met[j]?=some (met[j]'(by omega)):=fun hj=>bG _
 have hmr:∀{j:Nat} (hj:j<aC.length) (z:List Nat),Wd z->kC aC j z=fut v s (met[j]'(by omega)) z:=fun hj z hz=>EU o h1 h2 z _ _ hz (hget hj)
 refine⟨Em h,by omega,fun q hq=>?_,fun j q l hq hl=>?_,?_,fun i j hi hj e=>?_,fun j hj T hT=>?_,fun j hj=>?_,fun z hz=>?_⟩
 ·obtain⟨j,hj,rfl⟩:=mem_iff_getElem.1 hq;obtain⟨b',-,h3⟩:=h1.is j _ (bG hj);exact⟨h3.2.1,h3.2.2.1⟩
 ·obtain⟨b',-,h3⟩:=h1.is j q hq;obtain⟨nb,-,h4⟩:=h3.2.2.2 l hl;rw[hlen];exact(bU h4).1
 ·rw[hlen];exact h1.num met.length (dH _)
 ·exact aBw o h1.mt (hget hi) (hget hj) fun z hz=>by rw[<-hmr hi z hz,<-hmr hj z hz];exact e z hz
 ·obtain⟨r,E,hcb,-,-⟩:=h1.mt.1 j _ (hget hj);exact aBv o hcb fun z hz=>by rw[<-hmr hj z hz];exact hT z hz
 ·obtain⟨r,E,hcb,hr,hw⟩:=h1.mt.1 j _ (hget hj);exact⟨r,E,hw,hr,fun z hz=>by rw[hmr hj z hz];exact ET o hcb hz⟩
 ·have hp:=Em h;rw[hmr (by omega) z hz];have hb:met[0]'(by omega)=b:=dY ((hget (j:=0) (by omega)).symm.trans h1.first);rw[hb];exact(ET o h0 hz).symm
theorem aCM(hv:VF v)(z:List Nat):(R (aF v) z).length<=4*z.length:=by
 have:=gY hv 0 z 0;rw[oH]at this;exact this
theorem vN(aC:List iL)(j:Nat):kC aC j []=(I4 aC j).en:=rfl
theorem rG(aC:List iL)(j l:Nat)(z:List Nat):kC aC j (l::z)=(I4 aC j).sd.getD l []++kC aC ((I4 aC j).nx.getD l 0) z:=rfl
theorem oz(h:aC[j]?=some q):I4 aC j=q:=by
 unfold I4;rw[fM,h];rfl
theorem Z5{r:List Nat}(h:Wd r):Wd r.reverse:=fun x hx=>h x (mem_reverse.1 hx)
theorem aDt(hv:VF v)(h:MFx v aC)(hq:aC[j]?=some q):q.en.length<=800∧∀l,l<4->(q.sd.getD l []).length<=800:=by
 have hj:=(bU hq).1;have hle:=h.le;obtain⟨r,E,hw,hr,hR⟩:=h.par j hj;refine⟨?_,fun l hl=>?_⟩
 ·have e:=congrArg length (hR [] (fun x hx=>by cases hx));have hl:=aCM hv (r.reverse++[]);rw[vN,oz hq,length_append]at e;rw[length_append,length_reverse,length_nil]at hl;omega
 ·have e:=congrArg length (hR [l] (fun x hx=>by rw[mem_singleton.1 hx];exact hl));have hl:=aCM hv (r.reverse++[l]);rw[rG,oz hq,length_append,length_append]at e;rw[length_append,length_reverse,length_singleton]at hl;omega
theorem Kq{k:Nat}(hk:k<4):∀c∈aT k,isS c=true:=fun c hc=>by
 have:=kU hk c hc;unfold isS;rw[this];rfl
theorem Z7(ho:∀a∈l,a.Ok)(z:List Nat):∀d:Nat × By,(∀c∈d.2,isS c=true)->∀c∈(jV l z d).2,isS c=true:=by
 induction l with
 | nil=>exact fun d hd=>hd
 | cons a l ih=>
  intro d hd;rw[jV];refine ih (fun x hx=>ho x (mem_cons_of_mem _ hx)) _ ?_;split
  ·exact(ho a mem_cons_self).side.ts
  ·exact hd
theorem FW{l:List LR}(ho:∀a∈l,a.Ok):∀(z:List Nat) (t:Nat),Wd z->∀c∈wV l t z,isS c=true
 | [],t,_,c,hc=>by cases t <;> simp[wV]at hc
 | k::z,t+1,hz,c,hc=>by
  rw[wV]at hc;exact FW ho z t (jU hz) c hc
 | k::z,0,hz,c,hc=>by
  rw[wV]at hc;split at hc
  ·rcases mem_append.1 hc with h | h
   ·exact Z7 ho (k::z) (0,[]) (fun c hc=>by cases hc) c h
   ·exact FW ho z _ (jU hz) c h
  ·rcases mem_append.1 hc with h | h
   ·exact Kq (hz k mem_cons_self) c h
   ·exact FW ho z _ (jU hz) c h
theorem aDu{rs:List Rule}(hl:mZ l rs)(ho:∀a∈l,a.Ok)(hv:view rs=some (some v))(h:MFx v aC)(hq:aC[j]?=some q):(∀c∈q.en,isS c=true)∧∀l,l<4->∀c∈q.sd.getD l [],isS c=true:=by
 have hj:=(bU hq).1;obtain⟨r,E,hw,hr,hR⟩:=h.par j hj;have hall:∀z,Wd z->∀c∈kC aC j z,isS c=true:=fun z hz c hc=>by
  have hwd:Wd (r.reverse++z):=fun x hx=>by
   rcases mem_append.1 hx with h | h
   ·exact Z5 hw x h
   ·exact hz x h
  have e:=hR z hz;have:c∈R (aF v) (r.reverse++z):=by rw[e];exact mem_append_right _ hc
  unfold R at this;rw[tN hl hv _ 0 hwd]at this;exact FW ho _ 0 hwd c this
 refine⟨fun c hc=>hall [] (fun x hx=>by cases hx) c (by rw[vN,oz hq];exact hc),fun k hk c hc=>hall [k] (fun x hx=>by rw[mem_singleton.1 hx];exact hk) c ?_⟩;rw[rG,oz hq];exact mem_append_left _ hc
end Th
end Go.Proofs.YtoebidlghdidoaaGreatDoor
