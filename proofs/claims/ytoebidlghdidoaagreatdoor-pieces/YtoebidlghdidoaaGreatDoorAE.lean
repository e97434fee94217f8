import Derived.Test.YtoebidlghdidoaaGreatDoorAD
namespace Go.Proofs.YtoebidlghdidoaaGreatDoor
open List
namespace Th
open aI (common R4 Rule)
open M2 (View Pair Stp fH pY bP Apart aK bJ jk iL oU dI Auto qA jH oN bF jR aT fQ lX dU pX jM gI sK aV eU jv iJ iF walk)
open M3 (GG uZ jr y8 gJ judge fV iU find graph states dD view jO IW qV)
variable {found:List fH} {last l f z of:List Nat} {B:Int} {i limit n t x m c:Nat} {k:dI} {v:View} {out:List iL} {a b:Auto}
section
variable {v:View} {R:GG}
structure FK(v:View)(R:GG)(found:List fH)(last:List Nat)(B:Int):Prop where
 hp:HP v R.g.pairs found
 l4:∀f∈found,f.l<4
 fi:FI R.g.pairs.length R.on found last
 fr:∀f∈found,f.fr<B
theorem aBC{pairs:List Pair}(h:HP v pairs found){F:fH} (hF:∃q,pairs[F.pair]?=some q ∧((F.fr=-1∧F.h0=[]∧F.h1=[]∧q.s=0∧q.t=0)∨∃(j:Nat) (g:fH) (p:Pair) (s:Stp),F.fr=(j:Int)∧found[j]?=some g∧pairs[g.pair]?=some p∧Rel v p s q∧F.l=s.l∧F.h0=(g.h0++s.s0).drop (common (g.h0++s.s0) (g.h1++s.s1))∧F.h1=(g.h1++s.s1).drop (common (g.h0++s.s0) (g.h1++s.s1)))):HP v pairs (found++[F]):=by
 intro i f hf;have up':∀(j:Nat) (g:fH),found[j]?=some g->(found++[F])[j]?=some g:=fun j g hg=>by
  rw[jG (bU hg).1];exact hg
 rcases iK i found.length with hlt | hge
 ·rw[jG hlt]at hf;obtain⟨q,hq,hc⟩:=h i f hf;refine⟨q,hq,hc.imp id fun⟨j,g,p,s,c1,c2,c3,c4⟩=>⟨j,g,p,s,c1,c2,up' j g c3,c4⟩⟩
 ·have hi:=(bU hf).1;rw[length_append,length_singleton]at hi;have:i=found.length:=by omega
  subst this;rw[mW (dH _),Nat.sub_self]at hf;simp at hf;subst hf;obtain⟨q,hq,hc⟩:=hF;refine⟨q,hq,hc.imp id fun⟨j,g,p,s,c1,c3,c4⟩=>⟨j,g,p,s,c1,(bU c3).1,up' j g c3,c4⟩⟩
theorem Nw(hx:GX v R)(h:FK v R found last B){pair:Nat}{h0 h1:By}{fr:Int}{l:Nat}(hl:found.length<2199023000000)(hl4:l<4)(hB:fr<B) (hF:∃q,R.g.pairs[pair]?=some q ∧((fr=-1∧h0=[]∧h1=[]∧q.s=0∧q.t=0)∨∃(j:Nat) (g:fH) (p:Pair) (s:Stp),fr=(j:Int)∧found[j]?=some g∧R.g.pairs[g.pair]?=some p∧Rel v p s q∧l=s.l∧h0=(g.h0++s.s0).drop (common (g.h0++s.s0) (g.h1++s.s1))∧h1=(g.h1++s.s1).drop (common (g.h0++s.s0) (g.h1++s.s1)))):∃f2 l2,uZ R.on found last pair h0 h1 fr l=some (f2,l2)∧FK v R f2 l2 B∧∃more,f2=found++more∧more.length<=1:=by
 have hpn:pair<R.g.pairs.length:=by
  obtain⟨q,hq,-⟩:=hF;exact(bU hq).1
 obtain⟨f2,l2,e1,e2,e3⟩:=RV hx.on.len h.fi hpn hl h0 h1 fr l;refine⟨f2,l2,e1,?_⟩;rcases e3 with rfl | ⟨b,-,rfl⟩
 ·exact⟨⟨h.hp,h.l4,e2,h.fr⟩,[],by simp,by simp⟩
 ·refine⟨⟨aBC h.hp hF,fun f hf=>?_,e2,fun f hf=>?_⟩,[_],rfl,by simp⟩
  ·rcases mem_append.1 hf with hf | hf
   ·exact h.l4 f hf
   ·simp at hf;subst hf;exact hl4
  ·rcases mem_append.1 hf with hf | hf
   ·exact h.fr f hf
   ·simp at hf;subst hf;exact hB
theorem qZ(hx:GX v R):∀(n i:Nat) (found:List fH) (last:List Nat),i+n=R.st->FK v R found last 0->found.length+n<2199023000000->∃f2 l2,gJ R.on n i found last=some (f2,l2)∧FK v R f2 l2 0∧f2.length<=found.length+n
 | 0,i,found,last,_,h,_=>⟨found,last,by rw[gJ],h,by omega⟩
 | n+1,i,found,last,hi,h,hl=>by
  have hil:i<R.g.pairs.length:=by have:=hx.st;omega
  obtain⟨z1,z2⟩:=hx.ok.zero i _ (by omega) (bG hil);obtain⟨f2,l2,e1,e2,more,e3,e4⟩:=Nw hx h (pair:=i) (h0:=[]) (h1:=[]) (fr:=-1) (l:=0) (by omega) (by omega) (by omega) ⟨_,bG hil,Or.inl ⟨rfl,rfl,rfl,z1,z2⟩⟩;rw[gJ,e1];simp only[];have hlen:f2.length<=found.length+1:=by rw[e3,length_append];omega
  obtain⟨f3,l3,d1,d2,d3⟩:=qZ hx n (i+1) f2 l2 (by omega) e2 (by omega);exact⟨f3,l3,d1,d2,by omega⟩
theorem zJ(hx:GX v R){i:Nat}{f:fH}(hh:f.h0.length<=40000∧f.h1.length<=40000)(hv:VF v):∀(bs:List Stp) (found:List fH) (last:List Nat),(∀s∈bs,s∈R.g.steps∧s.fr=f.pair)->found[i]?=some f->FK v R found last ((i:Int)+1)->found.length+bs.length<2199023000000 ->∃f2 l2,jr R.on i f.h0 f.h1 bs found last=some (f2,l2)∧FK v R f2 l2 ((i:Int)+1)∧∃more,f2=found++more∧more.length<=bs.length
 | [],found,last,_,_,h,_=>⟨found,last,by rw[jr],h,[],by simp,by simp⟩
 | s::bs,found,last,hs,hf,h,hl=>by
  rw[length_cons]at hl;obtain⟨m1,m2⟩:=hs s mem_cons_self;obtain⟨p,q,c1,c2,c3⟩:=hx.ok.gi.st s m1;have w0:s.s0.length<=4:=by have:=l7 hv p.x p.s s.l;rwa [c3.sx]at this
  have w1:s.s1.length<=4:=by have:=l7 hv p.y p.t s.l;rwa [c3.sy]at this
  rw[m2]at c1;obtain⟨f2,l2,e1,e2,more,e3,e4⟩:=Nw hx h (pair:=s.tt) (h0:=(f.h0++s.s0).drop (common (f.h0++s.s0) (f.h1++s.s1))) (h1:=(f.h1++s.s1).drop (common (f.h0++s.s0) (f.h1++s.s1))) (fr:=(i:Int)) (l:=s.l) (by omega) c3.l4 (by omega) ⟨q,c2,Or.inr ⟨i,f,p,s,rfl,hf,c1,c3,rfl,rfl,rfl⟩⟩;rw[jr,aP ⟨by rw[length_append];omega,by rw[length_append];omega⟩,e1];simp only[];have hf2:f2[i]?=some f:=by rw[e3,jG (bU hf).1];exact hf
  obtain⟨f3,l3,d1,d2,more2,d3,d4⟩:=zJ hx hh hv bs f2 l2 (fun t ht=>hs t (mem_cons_of_mem _ ht)) hf2 e2 (by rw[e3,length_append];omega);exact⟨f3,l3,d1,d2,more++more2,by rw[d3,e3,append_assoc],by rw[length_append,length_cons];omega⟩
theorem Eh(hx:GX v R)(hv:VF v){f:fH}(hh:f.h0.length<=40000∧f.h1.length<=40000)(hf:found[i]?=some f)(h:FK v R found last ((i:Int)+1))(hl:found.length+2304<2199023000000):∃f2 l2,y8 R i found last=some (f2,l2)∧FK v R f2 l2 ((i:Int)+1)∧∃more,f2=found++more∧more.length<=2304:=by
 obtain⟨g1,-⟩:=h.fi.pr f (iI hf);have hfl:=hx.fl;have hnp:=hx.np;have ha:f.pair<R.first.length:=by omega
 have hb:f.pair+1<R.first.length:=by omega
 have ea:=bG ha;have eb:=bG hb;obtain⟨m1,m2⟩:=hx.fm f.pair _ _ ea eb;have m3:=hx.fd f.pair _ _ ea eb;have hns:=hx.ns;have hlen:((R.g.steps.take (R.first[f.pair+1])).drop (R.first[f.pair])).length<=2304:=by
  rw[length_drop,length_take];omega
 unfold y8;rw[hf];simp only[];rw[ea,eb];simp only[];rw[aP ⟨m1,m2,by omega,by omega,by omega⟩];obtain⟨f2,l2,e1,e2,more,e3,e4⟩:=zJ hx hh hv ((R.g.steps.take (R.first[f.pair+1])).drop (R.first[f.pair])) found last (fun s hs=>⟨mem_of_mem_take (mem_of_mem_drop hs),hx.ok.own f.pair _ _ ea eb s hs⟩) hf h (by omega);exact⟨f2,l2,e1,e2,more,e3,by omega⟩
end
def pn(found:List fH)(k:Nat):Nat:=(found[k]?.map (fun f=>f.pair)).getD 0
theorem xR{k:Nat}{f:fH}(h:found[k]?=some f):pn found k=f.pair:=by
 unfold pn;rw[h];rfl
theorem An.more(h:An found i l)(m:List fH):An (found++m) i l:=by
 induction h with
 | start a b=>exact An.start (by rw[jG (bU a).1];exact a) b
 | step a b c _ ih=>exact An.step (by rw[jG (bU a).1];exact a) b c ih
theorem An.some(h:An found i l):∀k∈l,∃f,found[k]?=some f:=by
 induction h with
 | start a _=>intro k hk;simp at hk;subst hk;exact⟨_,a⟩
 | step a _ _ _ ih=>
  intro k hk;rcases mem_cons.1 hk with rfl | hk
  ·exact⟨_,a⟩
  ·exact ih k hk
section
variable {v:View} {R:GG}
structure GJ(v:View)(R:GG)(i:Nat)(found:List fH)(last:List Nat):Prop where
 fk:FK v R found last (i:Int)
 dn:∀k,k<i->∃f l a b en p q,found[k]?=some f∧An found k l∧(l.map (pn found)).Nodup∧Ns v R f a b en p q
 sz:found.length<=9216+2304*i
theorem RX(hfi:FI R.g.pairs.length R.on found last)(hx:GX v R){k:Nat}(h:An found k l)(hn:(l.map (pn found)).Nodup):l.length<=9216:=by
 have h1:=mX R.g.pairs.length (l.map (pn found)) hn fun x hx'=>by
  obtain⟨j,hj,rfl⟩:=mem_map.1 hx';obtain⟨f,hf⟩:=h.some j hj;rw[xR hf];exact(hfi.pr f (iI hf)).1
 rw[length_map]at h1;have:=hx.np;omega
theorem Ei(hv:VF v)(h:FK v R found last B){k:Nat}(ha:An found k l)(hl:l.length<=9217){f:fH}(hf:found[k]?=some f):f.h0.length<=40000∧f.h1.length<=40000:=by
 obtain⟨t,-,a2,a3,-⟩:=o7 h.l4 ha 100000 [] (by omega) (by simp;omega);obtain⟨u,p0,q,e,H⟩:=zF h.hp (k+1) k f (by omega) hf;have hu:=KR H.wo a3;have l1:=gY hv q.x u 0;have l2:=gY hv q.y u 0;rw[H.ox,length_append,hu,mP]at l1;rw[H.oy,length_append,hu,mP]at l2;omega
def key(found:List fH)(k:Nat):Nat:=match found[k]? with
 | none=>0
 | some f=>f.pair*100000+(f.h1.length+40000-f.h0.length)
theorem Yz(hv:VF v)(hx:GX v R)(h:GJ v R i found last):i<=921600000:=by
 have RY:∀k,k<i->∃f a b en p q,found[k]?=some f∧Ns v R f a b en p q∧f.h0.length<=40000∧f.h1.length<=40000∧f.pair<R.g.pairs.length∧key found k=f.pair*100000+(f.h1.length+40000-f.h0.length):=fun k hk=>by
  obtain⟨f,l,a,b,en,p,q,c1,c2,c3,c4⟩:=h.dn k hk;have hl:=RX h.fk.fi hx c2 c3;obtain⟨d1,d2⟩:=Ei hv h.fk c2 (by omega) c1;exact⟨f,a,b,en,p,q,c1,c4,d1,d2,(h.fk.fi.pr f (iI c1)).1,by unfold key;rw[c1]⟩
 have hnp:=hx.np;have hnd:((range i).map (key found)).Nodup:=by
  rw[Nodup,pairwise_map];refine Pairwise.imp_of_mem ?_ (nodup_range (n:=i));intro k k' hk hk' hne e;obtain⟨f,a,b,en,p,q,c1,c2,c3,c4,c5,c6⟩:=RY k (mem_range.1 hk);obtain⟨f',a',b',en',p',q',d1,d2,d3,d4,d5,d6⟩:=RY k' (mem_range.1 hk');rw[c6,d6]at e;have hpp:f.pair=f'.pair:=by omega
  have hci:=d2.ci;rw[<-hpp,c2.ci]at hci;injection hci with hci;injection hci with e1 hci;injection hci with e2 e3;subst e1 e2 e3;have hp1:=d2.pp;rw[<-hpp,c2.pp]at hp1;have hp2:=d2.pq;rw[c2.pq]at hp2;cases hp1;cases hp2;obtain⟨s1,s2⟩:=Np c2.hd d2.hd (by omega);exact hne (h.fk.fi.one k k' f f' c1 d1 hpp s1 s2)
 have:=mX 921600000 _ hnd fun x hx'=>by
  obtain⟨k,hk,rfl⟩:=mem_map.1 hx';obtain⟨f,a,b,en,p,q,c1,c2,c3,c4,c5,c6⟩:=RY k (mem_range.1 hk);rw[c6];omega
 rwa [length_map,length_range]at this
theorem VH{more:List fH}{last':List Nat}(h:GJ v R i found last)(hk:FK v R (found++more) last' ((i:Int)+1))(hm:more.length<=2304){f:fH}(hf:found[i]?=some f)(ha:An found i l)(hn:(l.map (pn found)).Nodup)(ht:∃a b en p q,Ns v R f a b en p q):GJ v R (i+1) (found++more) last':=by
 have hpn:∀{k:Nat} {l:List Nat},An found k l->(l.map (pn found)).Nodup->(l.map (pn (found++more))).Nodup:=fun hk hn=>by
  have:map (pn (found++more)) _=map (pn found) _:=map_congr_left fun j hj=>by
   obtain⟨g,hg⟩:=hk.some j hj;rw[xR hg,xR (f:=g)];rw[jG (bU hg).1];exact hg
  rw[this];exact hn
 have up':∀{k:Nat} {g:fH},found[k]?=some g->(found++more)[k]?=some g:=fun hg=>by
  rw[jG (bU hg).1];exact hg
 refine⟨by rw[show ((i+1:Nat):Int)=(i:Int)+1 by omega];exact hk,fun k hkl=>?_,?_⟩
 ·rcases iK k i with hlt | hge
  ·obtain⟨g,l',a,b,en,p,q,c1,c2,c3,c4⟩:=h.dn k hlt;exact⟨g,l',a,b,en,p,q,up' c1,c2.more _,hpn c2 c3,c4⟩
  ·have:k=i:=by omega
   subst this;obtain⟨a,b,en,p,q,c4⟩:=ht;exact⟨f,l,a,b,en,p,q,up' hf,ha.more _,hpn ha hn,c4⟩
 ·have:=h.sz;rw[length_append];omega
theorem Bv(hv:VF v)(hk:KW v)(hx:GX v R)(h:GJ v R i found last){f:fH}(hf:found[i]?=some f):∃r l,judge v R found i=some r∧An found i l∧l.length<=9217∧(r=none->(l.map (pn found)).Nodup∧∃a b en p q,Ns v R f a b en p q):=by
 have hfr:=h.fk.fr f (iI hf);unfold judge;rw[hf];simp only[];obtain⟨q0,hq0,hc⟩:=h.fk.hp i f hf;rcases hc with ⟨c1,-⟩ | ⟨j,g,p,s,c1,c2,c3,-⟩
 ·have ha:=An.start hf c1;obtain⟨r,e1,e2⟩:=JI hv hk hx h.fk.hp h.fk.l4 h.fk.fi ha (by simp) hf;refine⟨r,[i],?_,ha,by simp,fun hr=>⟨by simp,e2 hr⟩⟩;rw[c1,Aj (by omega)];exact e1
 ·obtain⟨g',l,a,b,en,p',q',d1,d2,d3,d4⟩:=h.dn j c2;have hl:=RX h.fk.fi hx d2 d3;have ha:=An.step hf c1 c2 d2;have hj:=Eg (v:=v) (R:=R) (i:=i) (here:=f.pair) d2 100000 (by omega);rw[c1];rcases hj with ⟨k,fk,k1,k2,k3,k4⟩ | ⟨k1,k2⟩
  ·have hkj:=d2.le k k1;obtain⟨fk',lk,_,_,_,_,_,m1,m2,m3,-⟩:=h.dn k (by omega);obtain⟨w,hw⟩:=WU hv hk hx h.fk.hp h.fk.l4 h.fk.fi ha hl hf k1 (by omega) m2 (RX h.fk.fi hx m2 m3) k2 k3;exact⟨some w,i::l,by rw[k4];exact hw,ha,by rw[length_cons];omega,fun hr=>by cases hr⟩
  ·obtain⟨r,e1,e2⟩:=JI hv hk hx h.fk.hp h.fk.l4 h.fk.fi ha (by rw[length_cons];omega) hf;refine⟨r,i::l,by rw[k2];exact e1,ha,by rw[length_cons];omega,fun hr=>⟨?_,e2 hr⟩⟩;rw[map_cons,nodup_cons];refine⟨fun hm=>?_,d3⟩;obtain⟨k,hk1,hk2⟩:=mem_map.1 hm;obtain⟨fk,hfk⟩:=d2.some k hk1;rw[xR hfk,xR hf]at hk2;exact k1 k fk hk1 hfk hk2
theorem zK(hv:VF v)(hk:KW v)(hx:GX v R):∀(n i:Nat) (found:List fH) (last:List Nat),921600000<n+i->GJ v R i found last->∃r,iU v R n i found last=some r
 | 0,i,found,last,hn,h=>by
  have:=Yz hv hx h;omega
 | n+1,i,found,last,hn,h=>by
  have hle:=Yz hv hx h;rw[iU];split
  ·rename_i hi;obtain⟨r,l,e1,e2,e3,e4⟩:=Bv hv hk hx h (bG hi);rw[e1];rcases r with _ | w
   ·simp only[];obtain⟨e5,e6⟩:=e4 rfl;have hsz:=h.sz;have hfk:FK v R found last ((i:Int)+1):=⟨h.fk.hp,h.fk.l4,h.fk.fi,fun f hf=>by have:=h.fk.fr f hf;omega⟩;obtain⟨f2,l2,d1,d2,more,d3,d4⟩:=Eh hx hv (Ei hv h.fk e2 e3 (bG hi)) (bG hi) hfk (by omega);rw[d1];subst d3;exact zK hv hk hx n (i+1) _ l2 (by omega) (VH h d2 d4 (bG hi) e2 e5 e6)
   ·exact⟨some w,rfl⟩
  ·exact⟨none,rfl⟩
end
theorem Ej(hv:VF v)(hk:KW v):∃r,find v=some r:=by
 obtain⟨R,hR,hx⟩:=Bj hv;have hnp:=hx.np;have hst:=hx.st;unfold find;rw[hR];simp only[];rw[aP ⟨by omega,by omega⟩];have h0:FK v R [] (replicate R.g.pairs.length 0) 0:=by
  refine⟨(fun i f hf=>by simp at hf),(fun f hf=>by cases hf),⟨length_replicate,(fun k _=>⟨[],Ch.nil (by rw[yD];omega),(fun n f hf=>by simp at hf)⟩),(fun k=>by rw[yD];omega),(fun f hf=>by cases hf),(fun n n' f f' hf=>by simp at hf)⟩,(fun f hf=>by cases hf)⟩
 obtain⟨f2,l2,e1,e2,e3⟩:=qZ hx R.st 0 [] _ (by omega) h0 (by simp;omega);rw[e1];simp only[];refine zK hv hk hx _ 0 f2 l2 (by omega) ⟨e2,fun k hk=>by omega,?_⟩;simp at e3;omega
theorem Ny(hv:VF v)(hk:KW v):∃s a,oU v=some ⟨v,s,a⟩∧OK v s a:=by
 obtain⟨s,a,h1,h2,h3,h4,h5,h6,h7,h8⟩:=RF hv hk (f:=10000) (g:=1000) (by omega) (by omega);refine⟨s,a,?_,hv,hk.has,h4,h5,h6,h7,h8⟩;unfold oU;rw[h1];simp only[];rw[h2];simp only[];rw[h3];rfl
theorem ZA{s:bP}{a:Apart}{b:aK}(h:CB v s a [] [] b):Sf v s a b 0 [b] []:=by
 refine⟨⟨fun i c hc=>?_,by simp⟩,rfl,by simp,rfl,fun j q hq=>by simp at hq,fun N _=>by rw[zC];rfl⟩
 match i,hc with
 | 0,hc=>
  simp at hc;subst hc;exact⟨[],[],h,dH _,fun x hx=>by cases hx⟩
structure lC(v:View)(out:List iL):Prop where
 is:∃s a b met,OK v s a∧CB v s a [] [] b∧Sf v s a b met.length met out∧met.length<=200
theorem KT(hv:VF v)(hk:KW v)(hl:1<=limit)(hl2:limit<=200):∃res,states v limit=some res∧∀out,res=some out->lC v out∧out.length<=limit:=by
 obtain⟨s,a,e1,o⟩:=Ny hv hk;obtain⟨b,e2,e3,-⟩:=Yo o;unfold states;rw[e1];simp only[];rw[e2];simp only[];obtain⟨res,f1,f2⟩:=xN o hl2 1000 0 [b] [] (by omega) (by omega) (ZA e3) (Or.inl (by simp));refine⟨res,f1,fun out ho=>?_⟩;obtain⟨met,g1,g2⟩:=f2 out ho;exact⟨⟨s,a,b,met,o,e3,g1,by omega⟩,by rw[g1.len];exact g2⟩
theorem Nz(h:states v limit=some (some out))(h1:1<=out.length):states v out.length=some (some out)∧∀m,m<out.length->states v m=some none:=by
 unfold states at h;split at h
 ·cases h
 ·rename_i o ho;split at h
  ·cases h
  ·rename_i b hb;refine⟨?_,fun m hm=>?_⟩
   ·unfold states;rw[ho];simp only[];rw[hb];exact xO 1000 0 [b] [] out rfl h (dH _) (by simpa using h1)
   ·unfold states;rw[ho];simp only[];rw[hb];exact xQ 1000 0 [b] [] out rfl (by simp) h hm
theorem aBD(hv:VF v)(hk:KW v)(h:lC v out):find v=some none:=by
 obtain⟨r,hr⟩:=Ej hv hk;rcases r with _ | w
 ·exact hr
 ·obtain⟨s,a,b,met,o,h0,h1,h2⟩:=h.is;exact(WQ o h0 h1 h2 (find_ok hv hk hr)).elim
theorem Em(h:lC v out):1<=out.length:=by
 obtain⟨s,a,b,met,o,h0,h1,h2⟩:=h.is;have:=(bU h1.first).1;rw[h1.len];omega
inductive HH(a:Auto):List Nat->List Bool->Prop
 | nil:HH a [] (jR a.hit)
 | cons {l:Nat} {z:List Nat} {h h':List Bool}:HH a z h->bF h l a.nx 60=some h'->HH a (l::z) h'
theorem aDb{h h':List Bool}(x:HH a z h)(y:HH a z h'):h=h':=by
 induction x generalizing h' with
 | nil=>cases y;rfl
 | cons _ e ih=>
  cases y with
  | cons y' e'=>
   rw[ih y',e']at e;exact(dY e).symm
theorem find_spec(h:List Bool):∀(hs:List (List Bool)) (i:Nat),(M2.find hs h i=i+hs.length∧h∉hs)∨(i<=M2.find hs h i∧M2.find hs h i<i+hs.length∧hs[M2.find hs h i-i]?=some h)
 | [],i=>Or.inl ⟨by rw[M2.find];rfl,by simp⟩
 | x::xs,i=>by
  rw[M2.find];split
  ·rename_i e;exact Or.inr ⟨dH _,by simp,by simp[e]⟩
  ·rename_i e;rcases find_spec h xs (i+1)with ⟨h1,h2⟩ | ⟨h1,h2,h3⟩
   ·refine Or.inl ⟨by rw[h1,length_cons];omega,fun hm=>?_⟩;rcases mem_cons.1 hm with hm | hm
    ·exact e hm.symm
    ·exact h2 hm
   ·refine Or.inr ⟨by omega,by rw[length_cons];omega,?_⟩;rw[show M2.find xs h (i+1)-i=(M2.find xs h (i+1)-(i+1))+1 by omega,getElem?_cons_succ];exact h3
structure KI(a:Auto)(i:Nat)(k:dI):Prop where
 wl:k.words.length=k.hits.length
 nd:k.hits.Nodup
 w0:k.words[0]?=some []
 h0:k.hits[0]?=some (jR a.hit)
 wd:∀(n:Nat) (w:By),k.words[n]?=some w->Wb w∧w.length<=n∧∃h,k.hits[n]?=some h∧HH a (ak w) h
 al:k.ahead.length=i
 ar:∀(j:Nat) (r:R4),k.ahead[j]?=some r->∀l,l<4->∃h h',k.hits[j]?=some h∧bF h l a.nx 60=some h'∧k.hits[kz r l]?=some h'
theorem kD{l:Nat}(hl:l<4){k':dI}(h:KI a i k)(e:qA a i l k=some (n,k')):KI a i k'∧k'.ahead=k.ahead∧(∃more,k'.hits=k.hits++more)∧∃hi hn,k'.hits[i]?=some hi∧bF hi l a.nx 60=some hn∧k'.hits[n]?=some hn:=by
 unfold qA at e;split at e
 ·cases e
 ·rename_i hi hhi;split at e
  ·cases e
  ·rename_i h' hah;simp only[]at e;have hil:=(bU hhi).1;rcases find_spec h' k.hits 0 with ⟨f1,f2⟩ | ⟨f1,f2,f3⟩
   ·rw[Nat.zero_add]at f1;rw[aP f1,f1,aP h.wl.symm]at e;split at e
    ·cases e
    ·rename_i w hw;injection e with e;injection e with e1 e2;subst e1 e2;obtain⟨w1,w2,hx,w3,w4⟩:=h.wd i w hw;rw[hhi]at w3;cases w3;have up':∀(j:Nat) (x:List Bool),k.hits[j]?=some x->(k.hits++[h'])[j]?=some x:=fun j x hx=>by
      rw[jG (bU hx).1];exact hx
     refine⟨⟨by simp[h.wl],?_,?_,up' 0 _ h.h0,fun m u hu=>?_,h.al,fun j r hj l' hl'=>?_⟩,rfl,⟨[h'],rfl⟩,hi,h',up' i hi hhi,hah,by simp⟩
     ·rw[nodup_append];refine⟨h.nd,by simp,fun x hx y hy exy=>?_⟩;simp at hy;exact f2 (by rw[<-hy,<-exy];exact hx)
     ·show (k.words++[aT l++w])[0]?=some [];rw[jG (bU h.w0).1];exact h.w0
     ·simp only at hu ⊢;rcases iK m k.words.length with hlt | hge
      ·rw[jG hlt]at hu;obtain⟨a1,a2,x,a3,a4⟩:=h.wd m u hu;exact⟨a1,a2,x,up' m x a3,a4⟩
      ·have hm:=(bU hu).1;rw[length_append,length_singleton]at hm;have:m=k.words.length:=by omega
       subst this;rw[mW (dH _),Nat.sub_self]at hu;simp at hu;subst hu;have hwl:=h.wl;refine⟨nO (kU hl) w1,by rw[length_append,o6 hl];omega,h',by rw[hwl];simp,?_⟩;rw[gQ,jZ hl];exact HH.cons w4 hah
     ·obtain⟨x,x',b1,b2,b3⟩:=h.ar j r hj l' hl';exact⟨x,x',up' j x b1,b2,up' _ x' b3⟩
   ·rw[Nat.zero_add]at f2;have hwl:=h.wl;rw[aU (by omega),aU (by omega)]at e;injection e with e;injection e with e1 e2;subst e1 e2;rw[Nat.sub_zero]at f3;exact⟨⟨h.wl,h.nd,h.w0,h.h0,h.wd,h.al,h.ar⟩,rfl,⟨[],by simp⟩,hi,h',hhi,hah,f3⟩
theorem En{a:Auto}:∀(f i:Nat) (k k':dI),KI a i k->i<=k.hits.length->jH a f i k=some (some k')->KI a k'.hits.length k'
 | 0,i,k,k',_,_,e=>by rw[jH]at e;cases e
 | f+1,i,k,k',h,hi,e=>by
  rw[jH]at e;split at e
  ·rename_i hle;injection e with e;injection e with e;subst e;have:i=k.hits.length:=by omega
   rw[<-this];exact h
  ·split at e
   ·cases e
   ·rename_i p k1 e1;split at e
    ·cases e
    ·rename_i q k2 e2;split at e
     ·cases e
     ·rename_i u k3 e3;split at e
      ·cases e
      ·rename_i v k4 e4;split at e
       ·cases e
       ·obtain⟨a1,a2,⟨m1,a3⟩,x1,y1,a4,a5,a6⟩:=kD (by omega) h e1;obtain⟨b1,b2,⟨m2,b3⟩,x2,y2,b4,b5,b6⟩:=kD (by omega) a1 e2;obtain⟨c1,c2,⟨m3,c3⟩,x3,y3,c4,c5,c6⟩:=kD (by omega) b1 e3;obtain⟨d1,d2,⟨m4,d3⟩,x4,y4,d4,d5,d6⟩:=kD (by omega) c1 e4;have up':∀{A B:List (List Bool)} {M:List (List Bool)} {j:Nat} {x:List Bool},B=A++M->A[j]?=some x->B[j]?=some x:=fun hB hx=>by
         rw[hB,jG (bU hx).1];exact hx
        refine En f (i+1) ⟨k4.ahead++[⟨p,q,u,v⟩],k4.words,k4.hits⟩ k' ⟨d1.wl,d1.nd,d1.w0,d1.h0,d1.wd,by simp[d1.al],fun j r hj l hl=>?_⟩ ?_ e
        ·simp only at hj ⊢;rcases iK j k4.ahead.length with hlt | hge
         ·rw[jG hlt]at hj;exact d1.ar j r hj l hl
         ·have hm:=(bU hj).1;rw[length_append,length_singleton]at hm;have:j=k4.ahead.length:=by omega
          subst this;rw[mW (dH _),Nat.sub_self]at hj;simp at hj;subst hj;rw[d1.al]
          match l,hl with
          | 0,_=>exact⟨x1,y1,up' d3 (up' c3 (up' b3 a4)),a5,up' d3 (up' c3 (up' b3 a6))⟩
          | 1,_=>exact⟨x2,y2,up' d3 (up' c3 b4),b5,up' d3 (up' c3 b6)⟩
          | 2,_=>exact⟨x3,y3,up' d3 c4,c5,up' d3 c6⟩
          | 3,_=>exact⟨x4,y4,d4,d5,d6⟩
        ·exact(bU d4).1
theorem OA(h:oN a=some (some k)):KI a k.hits.length k:=by
 refine En 30 0 _ k ⟨rfl,by simp,rfl,rfl,fun n w hw=>?_,rfl,fun j r hj=>by simp at hj⟩ (by simp) h
 match n,hw with
 | 0,hw=>
  simp at hw;subst hw;exact⟨(fun c hc=>by cases hc),dH _,_,rfl,HH.nil⟩
theorem rC{a:Auto}{k:dI}(h:KI a k.hits.length k)(d:List (Nat × By)):∀z,Wd z->∃x,k.hits[kind (aF ⟨k,d⟩) z]?=some x∧HH a z x
 | [],_=>⟨_,h.h0,HH.nil⟩
 | l::z,hz=>by
  obtain⟨x,e1,e2⟩:=rC h d z fun y hy=>hz y (mem_cons_of_mem _ hy)
  have hl:=(bU e1).1;have hal:=h.al;have hlt:kind (aF ⟨k,d⟩) z<k.ahead.length:=by omega
  obtain⟨y,y',c1,c2,c3⟩:=h.ar _ _ (bG hlt) l (hz l mem_cons_self);rw[e1]at c1;cases c1;refine⟨y',?_,HH.cons e2 c2⟩;have:kind (aF ⟨k,d⟩) (l::z)=kz (k.ahead[kind (aF ⟨k,d⟩) z]) l:=by
   show kz (k.ahead.getD (kind (aF ⟨k,d⟩) z) ⟨0,0,0,0⟩) l=_;rw[fM,bG hlt];rfl
  rw[this];exact c3
theorem aJZ(h:KI a k.hits.length k)(d:List (Nat × By)):KW ⟨k,d⟩:=by
 refine⟨by show k.words.length=k.ahead.length;rw[h.wl,h.al],h.w0,fun n w hw=>?_⟩;obtain⟨a1,a2,x,a3,a4⟩:=h.wd n w hw;refine⟨a1,?_,a2⟩;obtain⟨y,b1,b2⟩:=rC h d (ak w) (qX w);rw[aDb b2 a4]at b1;obtain⟨i1,i2⟩:=bU a3;obtain⟨j1,j2⟩:=bU b1;exact(getElem_inj h.nd).1 (j2.trans i2.symm)
theorem sZ{rs:List Rule}(h:view rs=some (some v)):VF v∧KW v∧∃a ss,jO rs ⟨[],[]⟩ []=some (some (a,ss))∧KI a v.k.hits.length v.k∧fQ rs ss v.k v.k.ahead.length 0=some v.jX:=by
 unfold view at h;split at h
 ·cases h
 ·cases h
 ·rename_i a ss hl;split at h
  ·cases h
  ·split at h
   ·cases h
   ·split at h
    ·cases h
    ·split at h
     ·cases h
     ·cases h
     ·rename_i k hk;split at h
      ·cases h
      ·rename_i d hd;split at h
       ·rename_i hok;injection h with h;injection h with h;subst h;have hki:=OA hk;refine⟨?_,aJZ hki d,a,ss,hl,hki,hd⟩;unfold IW at hok;simp only[Bool.and_eq_true,decide_eq_true_eq,all_eq_true]at hok;obtain⟨⟨⟨⟨h1,h2⟩,-⟩,h4⟩,h5⟩:=hok;have hpos:=(bU hki.h0).1;refine⟨by show 0<k.ahead.length;rw[hki.al];exact hpos,h2,h1,fun row hr l m hm=>?_,fun x hx=>h5 x hx⟩;obtain⟨⟨⟨c1,c2⟩,c3⟩,c4⟩:=h4 row hr
        match l,hm with
        | 0,hm=>cases hm;exact c1
        | 1,hm=>cases hm;exact c2
        | 2,hm=>cases hm;exact c3
        | 3,hm=>cases hm;exact c4
        | l+4,hm=>cases hm
       ·cases h
def uQ(a:Auto)(t l:Nat):Nat:=kz (a.nx.getD t ⟨0,0,0,0⟩) l
def ig(a:Auto):Nat->List Nat->Bool
 | t,[]=>a.hit.getD t false
 | t,l::z=>ig a (uQ a t l) z
structure xU(a:Auto):Prop where
 hl:a.hit.length=a.nx.length
 le:a.nx.length<=60
 en:∀t l,t<a.nx.length->l<4->uQ a t l<a.nx.length
theorem vF(h:List Bool)(l:Nat)(hl:l<4):∀(nx:List R4) (n:Nat) (h':List Bool),bF h l nx n=some h'->h'.length=n∧∀t r,t<n->nx[t]?=some r->h'[t]?=h[kz r l]?
 | nx,0,h',e=>by
  rw[bF]at e;cases e;exact⟨rfl,fun t r ht=>by omega⟩
 | [],n+1,h',e=>by
  rw[bF]at e;rcases hq:bF h l [] n with _ | x
  ·rw[hq]at e;cases e
  ·rw[hq]at e;cases e;exact⟨by rw[length_cons,(vF h l hl [] n x hq).1],fun t r _ hr=>by simp at hr⟩
 | r::rs,n+1,h',e=>by
  rw[bF,uj hl]at e;simp only[]at e;split at e
  ·cases e
  ·rename_i b hb;rcases hq:bF h l rs n with _ | x
   ·rw[hq]at e;cases e
   ·rw[hq]at e;cases e;obtain⟨i1,i2⟩:=vF h l hl rs n x hq;refine⟨by rw[length_cons,i1],fun t r' ht hr=>?_⟩
    match t,ht,hr with
    | 0,_,hr=>
     simp at hr;subst hr;simp[hb]
    | t+1,ht,hr=>exact i2 t r' (by omega) (by simpa using hr)
theorem RZ(hA:xU a){x:List Bool}(h:HH a z x)(hz:Wd z):∀t,t<a.nx.length->x[t]?=some (ig a t z):=by
 induction h with
 | nil=>
  intro t ht;have h1:=hA.hl;have h2:=hA.le;unfold jR;rw[getElem?_take,aP (by omega),jG (by omega),ig,fM,bG (by omega)];rfl
 | @cons l z h h' _ e ih=>
  intro t ht;have hl:=hz l mem_cons_self;have h2:=hA.le;have i2:=(vF h l hl a.nx 60 h' e).2 t _ (by omega) (bG ht);have he:uQ a t l=kz a.nx[t] l:=by
   unfold uQ;rw[fM,bG ht];rfl
  rw[i2,<-he,ih (fun y hy=>hz y (mem_cons_of_mem _ hy)) _ (hA.en t l ht hl),ig]
theorem WV(hA:xU a)(h:KI a k.hits.length k)(d:List (Nat × By))(hz:Wd z)(ht:t<a.nx.length):lX k (kind (aF ⟨k,d⟩) z) t=ig a t z:=by
 obtain⟨x,e1,e2⟩:=rC h d z hz;unfold lX;rw[fM,fM,e1,Option.getD_some,RZ hA e2 hz t ht,Option.getD_some]
def best(hit:Nat->Bool):List Rule->List Nat->Nat × By->Nat × By
 | r::rs,s::ss,d=>best hit rs ss (if hit s&&decide (d.1<r.fr.length) then (r.fr.length,r.tt) else d)
 | _,_,d=>d
theorem Bz{k:dI}{kind:Nat}:∀(rs:List Rule) (ss:List Nat) (d r:Nat × By),dU k kind rs ss d=some r->r=best (lX k kind) rs ss d
 | [],ss,d,r,e=>by
  rw[dU]at e;cases e;cases ss <;> rfl
 | r0::rs,[],d,r,e=>by simp[dU]at e
 | r0::rs,s::ss,d,r,e=>by
  rw[dU]at e;rw[best];exact Bz rs ss _ r e
theorem rD{rs:List Rule}{ss:List Nat}{k:dI}:∀(n i:Nat) (ds:List (Nat × By)),fQ rs ss k n i=some ds->ds.length=n∧∀j,j<n->ds[j]?=some (best (lX k (i+j)) rs ss (0,[]))
 | 0,i,ds,e=>by rw[fQ]at e;cases e;exact⟨rfl,fun j hj=>by omega⟩
 | n+1,i,ds,e=>by
  rw[fQ]at e;split at e
  ·cases e
  ·rename_i d hd;rcases hq:fQ rs ss k n (i+1)with _ | x
   ·rw[hq]at e;cases e
   ·rw[hq]at e;cases e;obtain⟨i1,i2⟩:=rD n (i+1) x hq;refine⟨by rw[length_cons,i1],fun j hj=>?_⟩
    match j,hj with
    | 0,_=>rw[getElem?_cons_zero,Bz rs ss _ d hd];rfl
    | j+1,hj=>
     rw[getElem?_cons_succ,i2 j (by omega)];congr 3;omega
structure AE(a:Auto):Prop where
 hl:a.hit.length=a.nx.length
 en:∀t l,t<a.nx.length->l<4->uQ a t l<a.nx.length
theorem VI{l:Nat}(ht:t<a.nx.length):uQ (pX a b) t l=uQ a t l:=by
 unfold uQ pX;simp only[getD_eq_getElem?_getD];rw[jG ht]
theorem ZC(r:R4)(n l:Nat)(hl:l<4):kz ⟨r.a+n,r.b+n,r.c+n,r.d+n⟩ l=kz r l+n:=by
 match l,hl with
 | 0,_=>rfl
 | 1,_=>rfl
 | 2,_=>rfl
 | 3,_=>rfl
theorem OB{l:Nat}(ht:t<b.nx.length)(hl:l<4):uQ (pX a b) (a.nx.length+t) l=a.nx.length+uQ b t l:=by
 unfold uQ pX;simp only[getD_eq_getElem?_getD];rw[mW (by omega),Nat.add_sub_cancel_left,getElem?_map,bG ht];show kz ⟨b.nx[t].a+a.nx.length,b.nx[t].b+a.nx.length,b.nx[t].c+a.nx.length,b.nx[t].d+a.nx.length⟩ l=a.nx.length+kz b.nx[t] l;rw[ZC _ _ _ hl,Nat.add_comm]
theorem wQ(a b:Auto):(pX a b).nx.length=a.nx.length+b.nx.length:=by
 unfold pX;simp
theorem Eo{a b:Auto}(ha:AE a):∀(z:List Nat) (t:Nat),Wd z->t<a.nx.length->ig (pX a b) t z=ig a t z
 | [],t,_,ht=>by
  have:=ha.hl;rw[ig,ig];unfold pX;simp only[getD_eq_getElem?_getD];rw[jG (by omega)]
 | l::z,t,hz,ht=>by
  have hl:=hz l mem_cons_self;rw[ig,ig,VI ht];exact Eo ha z _ (fun y hy=>hz y (mem_cons_of_mem _ hy)) (ha.en t l ht hl)
theorem Ak{a b:Auto}(ha:AE a)(hb:AE b):∀(z:List Nat) (t:Nat),Wd z->t<b.nx.length->ig (pX a b) (a.nx.length+t) z=ig b t z
 | [],t,_,ht=>by
  have:=ha.hl;rw[ig,ig];unfold pX;simp only[getD_eq_getElem?_getD];rw[mW (by omega),this,Nat.add_sub_cancel_left]
 | l::z,t,hz,ht=>by
  have hl:=hz l mem_cons_self;rw[ig,ig,OB ht hl];exact Ak ha hb z _ (fun y hy=>hz y (mem_cons_of_mem _ hy)) (hb.en t l ht hl)
theorem ZE(ha:AE a)(hb:AE b):AE (pX a b):=by
 refine⟨?_,fun t l ht hl=>?_⟩
 ·have h1:=ha.hl;have h2:=hb.hl;rw[wQ];unfold pX;simp only[length_append];omega
 ·rw[wQ]at ht ⊢;rcases iK t a.nx.length with h | h
  ·rw[VI h];have:=ha.en t l h hl;omega
  ·obtain⟨u,rfl⟩:∃u,t=a.nx.length+u:=⟨t-a.nx.length,by omega⟩;rw[OB (by omega) hl];have:=hb.en u l (by omega) hl;omega
theorem Ep:∀(rs:List Rule) (a:Auto) (ss:List Nat) (a':Auto) (ss':List Nat),AE a->(∀r∈rs,∀b,jM r=some (some b)->AE b)->jO rs a ss=some (some (a',ss')) ->AE a'∧a.nx.length<=a'.nx.length∧(∀t z,t<a.nx.length->Wd z->ig a' t z=ig a t z)∧∃s2,ss'=ss++s2∧s2.length=rs.length∧∀(j:Nat) (r:Rule) (s:Nat),rs[j]?=some r->s2[j]?=some s->∃b,jM r=some (some b)∧s<a'.nx.length∧∀z,Wd z->ig a' s z=ig b 0 z
 | [],a,ss,a',ss',ha,_,e=>by
  rw[jO]at e;cases e;exact⟨ha,dH _,fun _ _ _ _=>rfl,[],by simp,rfl,fun j r s hj=>by simp at hj⟩
 | r::rs,a,ss,a',ss',ha,hb,e=>by
  rw[jO]at e;split at e
  ·cases e
  ·cases e
  ·rename_i b hlb;split at e
   ·rename_i hsm;have hab:=hb r mem_cons_self b hlb;have hpos:0<b.nx.length:=by
     unfold qV at hsm;simp only[Bool.and_eq_true,decide_eq_true_eq]at hsm;exact hsm.1.2
    obtain⟨i1,i2,i3,s2,i4,i5,i6⟩:=Ep rs _ _ a' ss' (ZE ha hab) (fun r' hr'=>hb r' (mem_cons_of_mem _ hr')) e;rw[wQ]at i2 i3;refine⟨i1,by omega,fun t z ht hz=>?_,a.nx.length::s2,by rw[i4,append_assoc];rfl,by simp[i5],fun j r' s hj hs=>?_⟩
    ·rw[i3 t z (by omega) hz,Eo ha z t hz ht]
    ·match j,hj,hs with
     | 0,hj,hs=>
      simp at hj hs;subst hj hs;refine⟨b,hlb,by omega,fun z hz=>?_⟩;rw[i3 _ z (by omega) hz];exact Ak ha hab z 0 hz hpos
     | j+1,hj,hs=>exact i6 j r' s (by simpa using hj) (by simpa using hs)
   ·cases e
def gf(l:List Nat)(i:Nat):Nat:=l.getD i 0
def yF(f:List Nat)(i:Nat):Bool:=(range i).all fun j=>decide (gf f j≠gf f i)
theorem dO:yF f i=true↔∀j,j<i->gf f j≠gf f i:=by
 unfold yF;rw[all_eq_true];exact⟨fun h j hj=>of_decide_eq_true (h j (mem_range.2 hj)),fun h j hj=>decide_eq_true (h j (mem_range.1 hj))⟩
def cnt(f:List Nat)(n:Nat):Nat:=((range n).filter (yF f)).length
theorem dW(f:List Nat)(n:Nat):cnt f (n+1)=cnt f n+if yF f n=true then 1 else 0:=by
 unfold cnt;rw[range_succ,filter_append,length_append];by_cases h:yF f n=true <;> simp[h]
theorem cnt_le(f:List Nat):∀n,cnt f n<=n
 | 0=>by simp[cnt]
 | n+1=>by
  rw[dW];have:=cnt_le f n;split <;> omega
structure Rf(n:Nat)(f:List Nat)(c:Nat):Prop where
 len:f.length=n
 lt:∀i,i<n->gf f i<c
 num:c=cnt f n
 ord:∀i,i<n->yF f i=true->gf f i=cnt f i
theorem Es(f:List Nat):∀i,∃j,j<=i∧gf f j=gf f i∧yF f j=true:=by
 intro i
 induction i using Nat.strongRecOn with
 | _ i ih=>
  by_cases h:yF f i=true
  ·exact⟨i,dH _,rfl,h⟩
  ·have:∃j,j<i∧gf f j=gf f i:=by
    apply Classical.byContradiction;intro hn;exact h (dO.2 fun j hj e=>hn ⟨j,hj,e⟩)
   obtain⟨j,hj,e⟩:=this;obtain⟨k,hk,e2,hf⟩:=ih j hj;exact⟨k,by omega,e2.trans e,hf⟩
section
variable {n:Nat} {f g:List Nat}
def Fin(n:Nat)(g f:List Nat):Prop:=∀i j,i<n->j<n->gf g i=gf g j->gf f i=gf f j
theorem Fin.first(h:Fin n g f)(hi:i<n)(hf:yF f i=true):yF g i=true:=dO.2 fun j hj e=>dO.1 hf j hj (h j i (by omega) hi e)
theorem Fin.trans{k:List Nat}(h:Fin n g f)(h2:Fin n k g):Fin n k f:=fun i j hi hj e=>h i j hi hj (h2 i j hi hj e)
theorem Fin.le(h:Fin n g f):cnt f n<=cnt g n:=by
 have key:∀m,m<=n->cnt f m<=cnt g m:=fun m=>by
  induction m with
  | zero=>intro _;simp[cnt]
  | succ m ih=>
   intro hm;have:=ih (by omega);rw[dW,dW];by_cases hf:yF f m=true
   ·rw[aP hf,aP (h.first (by omega) hf)];omega
   ·rw[aU hf];omega
 exact key n (dH _)
theorem Fin.eq(h:Fin n g f)(hc:cnt g n<=cnt f n):Fin n f g:=by
 have aER:∀i,i<n->yF g i=true->yF f i=true:=by
  have key:∀m,m<=n->cnt g m<=cnt f m->∀i,i<m->yF g i=true->yF f i=true:=fun m=>by
   induction m with
   | zero=>intro _ _ i hi;omega
   | succ m ih=>
    intro hm hcm i hi hg;have hle:cnt f m<=cnt g m:=by
     have h2:Fin m g f:=fun i j hi hj e=>h i j (by omega) (by omega) e
     exact h2.le
    rw[dW,dW]at hcm;by_cases hgm:yF g m=true
    ·by_cases hfm:yF f m=true
     ·rw[aP hgm,aP hfm]at hcm;rcases iK i m with hlt | hge
      ·exact ih (by omega) (by omega) i hlt hg
      ·obtain rfl:i=m:=by omega
       exact hfm
     ·rw[aP hgm,aU hfm]at hcm;omega
    ·have hfm:¬yF f m=true:=fun hf=>hgm (h.first (by omega) hf)
     rw[aU hgm,aU hfm]at hcm;rcases iK i m with hlt | hge
     ·exact ih (by omega) (by omega) i hlt hg
     ·obtain rfl:i=m:=by omega
      exact absurd hg hgm
  exact key n (dH _) hc
 intro i j hi hj e;obtain⟨i0,hi0,e1,f1⟩:=Es g i;obtain⟨j0,hj0,e2,f2⟩:=Es g j;have ff1:=aER i0 (by omega) f1;have ff2:=aER j0 (by omega) f2;have e3:=((h i0 i (by omega) hi e1).trans e).trans (h j0 j (by omega) hj e2).symm;have:i0=j0:=by
  rcases Nat.lt_trichotomy i0 j0 with hlt | heq | hgt
  ·exact absurd e3 (dO.1 ff2 i0 hlt)
  ·exact heq
  ·exact absurd e3.symm (dO.1 ff1 j0 hgt)
 rw[<-e1,<-e2,this]
end
theorem aBE(h:∀i j,i<n->j<n->gf f i=gf f j->i=j):cnt f n=n:=by
 have key:∀m,m<=n->cnt f m=m:=fun m=>by
  induction m with
  | zero=>intro _;simp[cnt]
  | succ m ih=>
   intro hm;rw[dW,ih (by omega),aP];exact dO.2 fun j hj e=>by
    have:=h j m (by omega) (by omega) e;omega
 exact key n (dH _)
theorem VJ(h:i<l.length):l[i]?=some (gf l i):=by
 unfold gf;rw[fM,bG h];rfl
theorem mY{a b:List Nat}(h:i<a.length):gf (a++b) i=gf a i:=by
 unfold gf;rw[fM,jG h,fM]
theorem OC{a:List Nat} :gf (a++[x]) a.length=x:=by
 unfold gf;rw[fM,mW (dH _),Nat.sub_self];rfl
theorem wR{a b:List Nat}:∀k,k<=a.length->cnt (a++b) k=cnt a k
 | 0,_=>by simp[cnt]
 | k+1,h=>by
  rw[dW,dW,wR k (by omega)];have:yF (a++b) k=yF a k:=by
   rw[Bool.eq_iff_iff,dO,dO];constructor
   ·intro hh j hj;have:=hh j hj
    rwa [mY (by omega),mY (by omega)]at this
   ·intro hh j hj;have:=hh j hj
    rwa [mY (by omega),mY (by omega)]
  rw[this]
theorem VK{a b:List Nat}{k:Nat}(h:k<a.length):yF (a++b) k=true->yF a k=true:=fun hf=>dO.2 fun j hj=>by
 have:=dO.1 hf j hj
 rwa [mY (by omega),mY (by omega)]at this
structure ND(n:Nat)(of:List Nat)(m:Nat)(ts:List Nat)(i:Nat)(met fin:List Nat)(c:Nat):Prop where
 aDc:met.length=m*m
 zM:fin.length=i
 lt:∀j,j<i->gf fin j<c
 num:c=cnt fin i
 ord:∀j,j<i->yF fin j=true->gf fin j=cnt fin j
 key:∀j,j<i->gf met (gf of j*m+gf of (gf ts j))=gf fin j+1
 none:∀k,(∀j,j<i->k≠gf of j*m+gf of (gf ts j))->gf met k=0
 same:∀j k,j<i->k<i->gf fin j=gf fin k->gf of j*m+gf of (gf ts j)=gf of k*m+gf of (gf ts k)
theorem KU{k:Nat}(i:Nat)(hk:k<l.length):gf (l.set k x) i=if k=i then x else gf l i:=by
 unfold gf;rw[fM,getElem?_set,fM];by_cases h:k=i
 ·subst h;simp[hk]
 ·simp[h]
theorem tC{n:Nat}{of ts:List Nat}{m:Nat}(hof:of.length=n)(hm:∀i,i<n->gf of i<m)(hts:ts.length=n)(htl:∀i,i<n->gf ts i<n):∀(k i:Nat) (met fin:List Nat) (c:Nat),i+k=n->ND n of m ts i met fin c ->∃met' fin' c',gI of m (of.drop i) (ts.drop i) met fin c=some (fin',c')∧ND n of m ts n met' fin' c'
 | 0,i,met,fin,c,hk,h=>by
  obtain rfl:i=n:=by omega
  rw[drop_of_length_le (by omega),drop_of_length_le (by omega)];exact⟨met,fin,c,rfl,h⟩
 | k+1,i,met,fin,c,hk,h=>by
  have hi:i<n:=by omega
  have hi1:i<of.length:=by omega
  have hi2:i<ts.length:=by omega
  have e1:of[i]=gf of i:=by unfold gf;rw[fM,bG hi1];rfl
  have e2:ts[i]=gf ts i:=by unfold gf;rw[fM,bG hi2];rfl
  have ht:=htl i hi;have ht1:gf ts i<of.length:=by omega
  have e3:=VJ ht1;have hx:=hm i hi;have hy:=hm _ ht;have hkey:gf of i*m+gf of (gf ts i)<m*m:=by
   have:(gf of i+1)*m<=m*m:=Nat.mul_le_mul_right _ hx;rw[Nat.succ_mul]at this;omega
  have hk1:gf of i*m+gf of (gf ts i)<met.length:=by rw[h.aDc];exact hkey
  have e4:=VJ hk1;rw[kJ hi1,kJ hi2,e1,e2,gI,e3];simp only[];rw[e4];by_cases hex:∃j,j<i∧gf of j*m+gf of (gf ts j)=gf of i*m+gf of (gf ts i)
  ·obtain⟨j,hj,hej⟩:=hex;have hv:=h.key j hj;rw[hej]at hv;rw[hv];simp only[];refine tC hof hm hts htl k (i+1) met (fin++[gf fin j]) c (by omega) ?_;have hfi:gf (fin++[gf fin j]) i=gf fin j:=by rw[<-h.zM];exact OC
   have hfl:∀q,q<i->gf (fin++[gf fin j]) q=gf fin q:=fun q hq=>mY (by rw[h.zM];exact hq)
   refine⟨h.aDc,by simp[h.zM],fun q hq=>?_,?_,fun q hq hq2=>?_,fun q hq=>?_,fun q hq=>h.none q fun x hx=>hq x (by omega),fun q r hq hr e=>?_⟩
   ·rcases iK q i with hlt | hge
    ·rw[hfl q hlt];exact h.lt q hlt
    ·obtain rfl:q=i:=by omega
     rw[hfi];exact h.lt j hj
   ·rw[dW,wR i (by rw[h.zM];exact dH _),<-h.num,aU,Nat.add_zero];intro hf;exact dO.1 hf j hj (by rw[hfl j hj,hfi])
   ·rcases iK q i with hlt | hge
    ·rw[hfl q hlt,wR q (by rw[h.zM];omega)];exact h.ord q hlt (VK (by rw[h.zM];omega) hq2)
    ·obtain rfl:q=i:=by omega
     exact absurd (by rw[hfl j hj,hfi]) (dO.1 hq2 j hj)
   ·rcases iK q i with hlt | hge
    ·rw[hfl q hlt];exact h.key q hlt
    ·obtain rfl:q=i:=by omega
     rw[hfi,hv]
   ·rcases iK q i with hlt | hge
    ·rcases iK r i with hlt2 | aDd
     ·rw[hfl q hlt,hfl r hlt2]at e;exact h.same q r hlt hlt2 e
     ·obtain rfl:r=i:=by omega
      rw[hfl q hlt,hfi]at e;exact(h.same q j hlt hj e).trans hej
    ·obtain rfl:q=i:=by omega
     rcases iK r q with hlt2 | aDd
     ·rw[hfi,hfl r hlt2]at e;exact hej.symm.trans (h.same j r hj hlt2 e)
     ·obtain rfl:r=q:=by omega
      rfl
  ·have hnone:=h.none (gf of i*m+gf of (gf ts i)) fun j hj e=>hex ⟨j,hj,e.symm⟩
   rw[hnone];simp only[];refine tC hof hm hts htl k (i+1) _ (fin++[c]) (c+1) (by omega) ?_;have hfi:gf (fin++[c]) i=c:=by rw[<-h.zM];exact OC
   have hfl:∀q,q<i->gf (fin++[c]) q=gf fin q:=fun q hq=>mY (by rw[h.zM];exact hq)
   refine⟨by rw[length_set];exact h.aDc,by simp[h.zM],fun q hq=>?_,?_,fun q hq hq2=>?_,fun q hq=>?_,fun q hq=>?_,fun q r hq hr e=>?_⟩
   ·rcases iK q i with hlt | hge
    ·rw[hfl q hlt];have:=h.lt q hlt;omega
    ·obtain rfl:q=i:=by omega
     rw[hfi];omega
   ·rw[dW,wR i (by rw[h.zM];exact dH _),<-h.num,aP];refine dO.2 fun j hj e=>?_
    rw[hfl j hj,hfi]at e;have:=h.lt j hj;omega
   ·rcases iK q i with hlt | hge
    ·rw[hfl q hlt,wR q (by rw[h.zM];omega)];exact h.ord q hlt (VK (by rw[h.zM];omega) hq2)
    ·obtain rfl:q=i:=by omega
     rw[hfi,wR q (by rw[h.zM];exact dH _),<-h.num]
   ·rw[KU _ hk1];rcases iK q i with hlt | hge
    ·rw[aU (fun e=>hex ⟨q,hlt,e.symm⟩),hfl q hlt];exact h.key q hlt
    ·obtain rfl:q=i:=by omega
     rw[aP rfl,hfi]
   ·rw[KU _ hk1,aU (fun e=>hq i (by omega) e.symm)];exact h.none q fun x hx=>hq x (by omega)
   ·rcases iK q i with hlt | hge
    ·rcases iK r i with hlt2 | aDd
     ·rw[hfl q hlt,hfl r hlt2]at e;exact h.same q r hlt hlt2 e
     ·obtain rfl:r=i:=by omega
      rw[hfl q hlt,hfi]at e;have:=h.lt q hlt;omega
    ·obtain rfl:q=i:=by omega
     rcases iK r q with hlt2 | aDd
     ·rw[hfi,hfl r hlt2]at e;have:=h.lt r hlt2;omega
     ·obtain rfl:r=q:=by omega
      rfl
theorem key_inj{y x' y':Nat}(hy:y<m)(hy':y'<m)(h:x*m+y=x'*m+y'):x=x'∧y=y':=by
 have hm:0<m:=by omega
 have h1:=congrArg (·/m) h;have h2:=congrArg (·%m) h;simp only[Nat.mul_comm x m,Nat.mul_comm x' m,Nat.mul_add_div hm,Nat.mul_add_mod,Nat.div_eq_of_lt hy,Nat.div_eq_of_lt hy',Nat.mod_eq_of_lt hy,Nat.mod_eq_of_lt hy']at h1 h2;exact⟨h1,h2⟩
theorem OD{ts:List Nat}(h:Rf n of m)(hts:ts.length=n)(htl:∀i,i<n->gf ts i<n):∃fin c,sK (of,m) ts=some (fin,c)∧Rf n fin c∧∀i j,i<n->j<n->(gf fin i=gf fin j↔gf of i=gf of j∧gf of (gf ts i)=gf of (gf ts j)):=by
 have h0:ND n of m ts 0 (replicate (m*m) 0) [] 0:=by
  refine⟨length_replicate,rfl,fun j hj=>by omega,rfl,fun j hj=>by omega,fun j hj=>by omega,fun k _=>?_,fun j k hj=>by omega⟩;unfold gf;rw[fM,getElem?_replicate];split <;> rfl
 obtain⟨met,fin,c,e,hs⟩:=tC h.len h.lt hts htl n 0 (replicate (m*m) 0) [] 0 (by omega) h0;refine⟨fin,c,e,⟨hs.zM,hs.lt,hs.num,hs.ord⟩,fun i j hi hj=>⟨fun he=>?_,fun⟨a,b⟩=>?_⟩⟩
 ·exact key_inj (h.lt _ (htl i hi)) (h.lt _ (htl j hj)) (hs.same i j hi hj he)
 ·have h1:=hs.key i hi;have h2:=hs.key j hj;rw[a,b,h2]at h1;omega
def nxt(nx:List R4)(l i:Nat):Nat:=gf (nx.map fun r=>(r.get l).getD 0) i
def InN(n:Nat)(nx:List R4):Prop:=nx.length=n∧∀l i,l<4->i<n->nxt nx l i<n
def aES(n:Nat)(nx:List R4)(f:List Nat)(lo:Nat):Prop:=∀l,lo<=l->l<4->∀i j,i<n->j<n->gf f i=gf f j->gf f (nxt nx l i)=gf f (nxt nx l j)
theorem Rf.le(h:Rf n f c):c<=n:=by rw[h.num];exact cnt_le f n
theorem zN{n:Nat}{nx:List R4}(hn:InN n nx){most:Nat}(Dx:n<=most):∀(k:Nat) (of:List Nat) (m:Nat),k<=4->Rf n of m ->∃of' m',aV nx most k (of,m)=some (of',m')∧Rf n of' m'∧Fin n of' of∧m<=m'∧(m'=m->Fin n of of'∧aES n nx of (4-k))
 | 0,of,m,_,h=>⟨of,m,rfl,h,fun _ _ _ _ e=>e,dH _,fun _=>⟨fun _ _ _ _ e=>e,fun l h1 h2=>by omega⟩⟩
 | k+1,of,m,hk,h=>by
  have hm:=h.le;rw[aV,aU (by show ¬most<m;omega)];obtain⟨fin,c,e1,h1,h2⟩:=OD h (ts:=nx.map fun r=>(r.get (3-k)).getD 0) (by rw[length_map];exact hn.1) (fun i hi=>hn.2 (3-k) i (by omega) hi);rw[e1];simp only[];have hfin:Fin n fin of:=fun i j hi hj e=>((h2 i j hi hj).1 e).1
  have hmc:m<=c:=by rw[h.num,h1.num];exact hfin.le
  obtain⟨of',m',e2,k1,k2,k3,k4⟩:=zN hn Dx k fin c (by omega) h1;refine⟨of',m',e2,k1,hfin.trans k2,by omega,fun em=>?_⟩;obtain⟨a1,a2⟩:=k4 (by omega);have hback:=hfin.eq (by rw[<-h.num,<-h1.num];omega);refine⟨fun i j hi hj e=>a1 i j hi hj (hback i j hi hj e),fun l l1 l2 i j hi hj e=>?_⟩;rcases iK (3-k) l with hlt | hge
  ·exact hfin _ _ (hn.2 l i l2 hi) (hn.2 l j l2 hj) (a2 l (by omega) l2 i j hi hj (hback i j hi hj e))
  ·obtain rfl:l=3-k:=by omega
   exact((h2 i j hi hj).1 (hback i j hi hj e)).2
theorem qC{n:Nat}{nx:List R4}(hn:InN n nx){most:Nat}(Dx:n<=most):∀(F:Nat) (of:List Nat) (m:Nat),Rf n of m->n<m+F ->∃of' m',eU nx most F (of,m)=some (of',m')∧Rf n of' m'∧Fin n of' of∧aES n nx of' 0
 | 0,of,m,h,hF=>by have:=h.le;omega
 | F+1,of,m,h,hF=>by
  have hm:=h.le;rw[eU,aU (by show ¬most<m;omega)];obtain⟨of',m',e1,h1,h2,h3,h4⟩:=zN hn Dx 4 of m (dH _) h;rw[e1];simp only[];by_cases hc:m'=m
  ·rw[aP hc];obtain⟨a1,a2⟩:=h4 hc;exact⟨of',m',rfl,h1,h2,fun l _ l2 i j hi hj e=>a1 _ _ (hn.2 l i l2 hi) (hn.2 l j l2 hj) (a2 l (by omega) l2 i j hi hj (h2 i j hi hj e))⟩
  ·rw[aU hc];obtain⟨KX,m2,e2,k1,k2,k3⟩:=qC hn Dx F of' m' h1 (by omega);exact⟨KX,m2,e2,k1,h2.trans k2,k3⟩
theorem Rh(h:Rf n f c)(hone:∀i j,i<n->j<n->gf f i=gf f j->i=j):c=n:=by rw[h.num];exact aBE hone
theorem cnt_mono(f:List Nat){j:Nat}:∀i,j<=i->cnt f j<=cnt f i
 | 0,h=>by rw[show j=0 by omega];exact dH _
 | i+1,h=>by
  rcases Nat.eq_or_lt_of_le h with rfl | h
  ·exact dH _
  ·have:=cnt_mono f (j:=j) i (by omega);rw[dW];omega
theorem WW(h:Rf n f c)(hi:i<n):(yF f i=true∧gf f i=cnt f i)∨(yF f i≠true∧gf f i<cnt f i):=by
 by_cases hf:yF f i=true
 ·exact Or.inl ⟨hf,h.ord i hi hf⟩
 ·right;refine⟨hf,?_⟩;obtain⟨j,h1,h2,h3⟩:=Es f i;rcases Nat.eq_or_lt_of_le h1 with rfl | h1
  ·exact absurd h3 hf
  ·have h4:=h.ord j (by omega) h3;have h5:=cnt_mono f (j:=j+1) i h1;rw[dW,aP h3]at h5;omega
structure TG(a:Auto)(of:List Nat)(i:Nat)(b:Auto):Prop where
 nl:b.nx.length=cnt of i
 hl:b.hit.length=cnt of i
 rep:∀q,q<cnt of i->∃j,j<i∧gf of j=q∧(∀l,l<4->uQ b q l=gf of (uQ a j l))∧b.hit[q]?=a.hit[j]?
theorem zO{a:Auto}(ha:AE a){of:List Nat}{c:Nat}(hc:Rf a.nx.length of c):∀(k i:Nat) (acc b:Auto),i+k=a.nx.length->TG a of i acc->jv of (of.drop i) (a.nx.drop i) (a.hit.drop i) acc=some b->TG a of a.nx.length b
 | 0,i,acc,b,hk,h,e=>by
  have hl:=hc.len;rw[drop_of_length_le (by omega),jv]at e;cases e;have:i=a.nx.length:=by omega
  rw[<-this];exact h
 | k+1,i,acc,b,hk,h,e=>by
  have hi:i<a.nx.length:=by omega
  have hio:i<of.length:=by rw[hc.len];exact hi
  have hih:i<a.hit.length:=by rw[ha.hl];exact hi
  have eo:of[i]=gf of i:=by unfold gf;rw[fM,bG hio];rfl
  rw[kJ hio,kJ hi,kJ hih,jv,eo,h.nl]at e;rcases WW hc hi with ⟨f1,f2⟩ | ⟨f1,f2⟩
  ·rw[aU (by omega)]at e;split at e
   ·rename_i p q u v e1 e2 e3 e4;refine zO ha hc k (i+1) _ b (by omega) ?_ e;have hcs:cnt of (i+1)=cnt of i+1:=by rw[dW,aP f1]
    refine⟨by simp[h.nl,hcs],by simp[h.hl,hcs],fun x hx=>?_⟩;rw[hcs]at hx;rcases iK x (cnt of i)with hlt | hge
    ·obtain⟨j,j1,j2,j3,j4⟩:=h.rep x hlt;refine⟨j,by omega,j2,fun l hl=>?_,?_⟩
     ·rw[<-j3 l hl];unfold uQ;simp only[getD_eq_getElem?_getD];rw[jG (by rw[h.nl];exact hlt)]
     ·simp only;rw[jG (by rw[h.hl];exact hlt)];exact j4
    ·have hxe:x=cnt of i:=by omega
     subst hxe;refine⟨i,by omega,f2,fun l hl=>?_,?_⟩
     ·have g:∀m y,of[m]?=some y->y=gf of m:=fun m y hm=>by
       have hm':=(bU hm).1;rw[VJ hm']at hm;exact(dY hm).symm
      have hr:uQ a i l=kz a.nx[i] l:=by
       unfold uQ;rw[fM,bG hi];rfl
      rw[hr];unfold uQ;simp only[getD_eq_getElem?_getD];rw[mW (by rw[h.nl];exact dH _),h.nl,Nat.sub_self]
      match l,hl with
      | 0,_=>exact g _ _ e1
      | 1,_=>exact g _ _ e2
      | 2,_=>exact g _ _ e3
      | 3,_=>exact g _ _ e4
     ·simp only;rw[mW (by rw[h.hl];exact dH _),h.hl,Nat.sub_self,bG hih];rfl
   ·cases e
  ·rw[aP f2]at e;refine zO ha hc k (i+1) acc b (by omega) ?_ e;have hcs:cnt of (i+1)=cnt of i:=by rw[dW,aU f1,Nat.add_zero]
   refine⟨by rw[hcs];exact h.nl,by rw[hcs];exact h.hl,fun x hx=>?_⟩;rw[hcs]at hx;obtain⟨j,j1,j2⟩:=h.rep x hx;exact⟨j,by omega,j2⟩
theorem VL(ha:AE a)(hc:Rf a.nx.length of c)(hs:∀l i j,l<4->i<a.nx.length->j<a.nx.length->gf of i=gf of j->gf of (uQ a i l)=gf of (uQ a j l))(hh:∀i j,i<a.nx.length->j<a.nx.length->gf of i=gf of j->a.hit.getD i false=a.hit.getD j false)(h:TG a of a.nx.length b):AE b∧∀(z:List Nat) (i:Nat),Wd z->i<a.nx.length->ig b (gf of i) z=ig a i z:=by
 have hcn:=hc.num;refine⟨⟨by rw[h.hl,h.nl],fun t l ht hl=>?_⟩,fun z=>?_⟩
 ·rw[h.nl]at ht ⊢;obtain⟨j,j1,-,j3,-⟩:=h.rep t ht;rw[j3 l hl,<-hcn];exact hc.lt _ (ha.en j l j1 hl)
 ·induction z with
  | nil=>
   intro i _ hi;have:=hc.lt i hi;obtain⟨j,j1,j2,-,j4⟩:=h.rep (gf of i) (by omega);rw[ig,ig,hh i j hi j1 j2.symm,fM,j4,<-fM]
  | cons l z ih=>
   intro i hz hi;have hl:=hz l mem_cons_self;have:=hc.lt i hi;obtain⟨j,j1,j2,j3,-⟩:=h.rep (gf of i) (by omega);rw[ig,ig,j3 l hl,hs l j i hl j1 hi j2];exact ih _ (fun y hy=>hz y (mem_cons_of_mem _ hy)) (ha.en i l hi hl)
def bh(h0 h:Bool):Nat:=if h=h0 then 0 else 1
theorem OE(h0:Bool):∀hs:List Bool,(iF h0 hs).1=hs.map (bh h0)∧((iF h0 hs).2=1∧(∀h∈hs,h=h0)∨(iF h0 hs).2=2∧∃h∈hs,h≠h0)
 | []=>⟨rfl,Or.inl ⟨rfl,fun h hh=>by cases hh⟩⟩
 | h::hs=>by
  obtain⟨i1,i2⟩:=OE h0 hs;rw[iF];by_cases e:h=h0
  ·rw[aP e];refine⟨by rw[map_cons,<-i1];simp[bh,e],?_⟩;rcases i2 with ⟨a,b⟩ | ⟨a,x,b,c⟩
   ·refine Or.inl ⟨a,fun y hy=>?_⟩;rcases mem_cons.1 hy with rfl | hy
    ·exact e
    ·exact b y hy
   ·exact Or.inr ⟨a,x,mem_cons_of_mem _ b,c⟩
  ·rw[aU e];exact⟨by rw[map_cons,<-i1];simp[bh,e],Or.inr ⟨rfl,h,mem_cons_self,e⟩⟩
theorem Df{f:List Nat}(h0:gf f 0=0)(h1:∀i,gf f i<=1):∀m,(cnt f (m+1)=1∧∀j,j<m+1->gf f j=0)∨(cnt f (m+1)=2∧∃j,j<m+1∧gf f j=1)
 | 0=>by
  left;refine⟨?_,fun j hj=>by rw[show j=0 by omega];exact h0⟩;rw[dW,aP (dO.2 fun j hj=>by omega)];rfl
 | m+1=>by
  rw[dW];have hv:=h1 (m+1);rcases Df h0 h1 m with ⟨a,b⟩ | ⟨a,j,b,c⟩
  ·by_cases e:gf f (m+1)=0
   ·left;rw[aU (fun hf=>dO.1 hf 0 (by omega) (by rw[h0,e]))];refine⟨by omega,fun j hj=>?_⟩;rcases iK j (m+1)with h | h
    ·exact b j h
    ·rw[show j=m+1 by omega];exact e
   ·right;rw[aP (dO.2 fun j hj=>by rw[b j hj];exact fun e2=>e e2.symm)];exact⟨by omega,m+1,by omega,by omega⟩
  ·right;refine⟨?_,j,by omega,c⟩;rw[aU,a];intro hf;rcases Nat.eq_zero_or_pos (gf f (m+1))with e | e
   ·exact dO.1 hf 0 (by omega) (by rw[h0,e])
   ·exact dO.1 hf j b (by rw[c];omega)
theorem JJ(ha:AE a)(hp:0<a.nx.length):Rf a.nx.length (iJ a).1 (iJ a).2∧∀i j,i<a.nx.length->j<a.nx.length->gf (iJ a).1 i=gf (iJ a).1 j->a.hit.getD i false=a.hit.getD j false:=by
 have hl:=ha.hl;obtain⟨h0,e0⟩:=eX (a.hit.getD 0 false);have hb:iJ a=iF h0 a.hit:=by unfold iJ;rw[e0]
 obtain⟨i1,i2⟩:=OE h0 a.hit;rw[hb];have hg:∀i,i<a.nx.length->gf (iF h0 a.hit).1 i=bh h0 (a.hit.getD i false):=fun i hi=>by
  unfold gf;rw[i1,fM,getElem?_map,fM,bG (by omega)];rfl
 have hb1:∀x,bh h0 x<=1:=fun x=>by unfold bh;split <;> omega
 have g0:gf (iF h0 a.hit).1 0=0:=by rw[hg 0 hp,<-e0];simp[bh]
 have hlen:(iF h0 a.hit).1.length=a.nx.length:=by rw[i1,length_map,hl]
 have g1:∀i,gf (iF h0 a.hit).1 i<=1:=fun i=>by
  rcases iK i a.nx.length with h | h
  ·rw[hg i h];exact hb1 _
  ·unfold gf;rw[fM,getElem?_eq_none (by omega)];simp
 obtain⟨m,hm⟩:∃m,a.nx.length=m+1:=⟨a.nx.length-1,by omega⟩;have hnum:(iF h0 a.hit).2=cnt (iF h0 a.hit).1 a.nx.length:=by
  rw[hm];rcases Df g0 g1 m with ⟨a1,b1⟩ | ⟨a1,j,b1,c1⟩
  ·rw[a1];rcases i2 with ⟨e,-⟩ | ⟨-,x,hx,hne⟩
   ·exact e
   ·exfalso;obtain⟨j,hj,hjx⟩:=getElem_of_mem hx;have:=b1 j (by omega);rw[hg j (by omega),fM,bG hj,Option.getD_some,hjx]at this;unfold bh at this;rw[aU hne]at this;omega
  ·rw[a1];rcases i2 with ⟨-,hall⟩ | ⟨e,-⟩
   ·exfalso;have hj:j<a.hit.length:=by omega
    rw[hg j (by omega),fM,bG hj,Option.getD_some,hall _ (getElem_mem hj)]at c1;simp[bh]at c1
   ·exact e
 refine⟨⟨hlen,fun i hi=>?_,hnum,fun i hi hf=>?_⟩,fun i j hi hj e=>?_⟩
 ·rw[hnum,hm];have:=g1 i;rcases Df g0 g1 m with ⟨a1,b1⟩ | ⟨a1,-⟩
  ·rw[a1,b1 i (by omega)];omega
  ·omega
 ·match i,hi,hf with
  | 0,_,_=>rw[g0];rfl
  | i+1,hi,hf=>
   rcases Df g0 g1 i with ⟨a1,-⟩ | ⟨-,j,b1,c1⟩
   ·rw[a1];have h1:=g1 (i+1);have h2:gf (iF h0 a.hit).1 (i+1)≠0:=fun e=>dO.1 hf 0 (by omega) (by rw[g0,e])
    omega
   ·exfalso;have h1:=g1 (i+1);have h2:gf (iF h0 a.hit).1 (i+1)≠0:=fun e=>dO.1 hf 0 (by omega) (by rw[g0,e])
    exact dO.1 hf j b1 (by omega)
 ·rw[hg i hi,hg j hj]at e;unfold bh at e;split at e
  ·rename_i x;split at e
   ·rename_i y;rw[x,y]
   ·omega
  ·rename_i x;split at e
   ·omega
   ·rename_i y;cases h0 <;> cases hx:a.hit.getD i false <;> cases hy:a.hit.getD j false <;> simp_all
theorem JK{r:Rule}(hw:walk r=some a)(ha:AE a)(hp:0<a.nx.length)(h60:a.nx.length<=60)(h:jM r=some (some b)):AE b∧∀z,Wd z->ig b 0 z=ig a 0 z:=by
 obtain⟨c1,c2⟩:=JJ ha hp;have hnx:∀l i,l<4->i<a.nx.length->nxt a.nx l i=uQ a i l:=fun l i hl hi=>by
  unfold nxt gf uQ;rw[fM,getElem?_map,bG hi,fM,bG hi];rfl
 have hin:InN a.nx.length a.nx:=⟨rfl,fun l i hl hi=>by rw[hnx l i hl hi];exact ha.en i l hi hl⟩;obtain⟨of,m,e1,e2,e3,e4⟩:=qC hin h60 100 (iJ a).1 (iJ a).2 c1 (by omega);unfold jM at h;rw[hw]at h;simp only[]at h;rw[show iJ a=((iJ a).1,(iJ a).2) from rfl,e1]at h;simp only[]at h;split at h
 ·cases h
 ·rcases ht:jv of of a.nx a.hit ⟨[],[]⟩ with _ | b'
  ·rw[ht]at h;cases h
  ·rw[ht]at h;injection h with h;injection h with h;subst h;have NF:=zO ha e2 a.nx.length 0 ⟨[],[]⟩ b' (by omega) ⟨rfl,rfl,fun q hq=>by simp[cnt]at hq⟩ (by simpa using ht);obtain⟨k1,k2⟩:=VL ha e2 (fun l i j hl hi hj e=>by
    have:=e4 l (by omega) hl i j hi hj e
    rwa [hnx l i hl hi,hnx l j hl hj]at this) (fun i j hi hj e=>c2 i j hi hj (e3 i j hi hj e)) NF
   refine⟨k1,fun z hz=>?_⟩;have h00:gf of 0=0:=by
    rw[e2.ord 0 hp (dO.2 fun j hj=>by omega)];rfl
   have:=k2 z 0 hz hp
   rwa [h00]at this
end Th
end Go.Proofs.YtoebidlghdidoaaGreatDoor
