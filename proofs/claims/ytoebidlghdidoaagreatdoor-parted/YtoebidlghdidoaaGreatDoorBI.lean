import Derived.Test.YtoebidlghdidoaaGreatDoorBC
set_option maxHeartbeats 1600000
set_option maxRecDepth 100000
namespace Go.Proofs.YtoebidlghdidoaaGreatDoor
open Tx Th M2 Tryz List
namespace Th
open aI (lG num common)
open M2 (View iL aT)
variable {w v:By} {l t j a b m:Nat} {mt:List Bool} {x y:List iL}
theorem aIN(h:Wb w)(hl:l<4):Wb (w++aT l):=fun c hc=>by
 rcases mem_append.1 hc with h1 | h1
 ·exact h c h1
 ·exact kU hl c h1
def Dn(aC:List iL)(c:UInt8)(mt:List Bool)(t j:Nat):Prop:=(I4 aC t).en.head?=some c∧∀l,l<j->((I4 aC t).sd.getD l []).head?=some c∨((I4 aC t).sd.getD l []=[]∧mt[(I4 aC t).nx.getD l 0]?=some true)
structure UI(aC:List iL)(fr:Nat)(c:UInt8)(ws:List (By × Nat))(mt:List Bool)(i:Nat):Prop where
 w0:ws[0]?=some ([],fr)
 wok:∀(k:Nat) (w:By) (t:Nat),ws[k]?=some (w,t)->Wb w∧w.length<=k∧t<aC.length∧mt[t]?=some true∧∀z,Wd z->kC aC fr (ak w++z)=kC aC t z
 ml:mt.length=aC.length
 mw:∀t:Nat,mt[t]?=some true->∃(k:Nat) (w:By),ws[k]?=some (w,t)
 cnt:ws.length=mt.count true
 dn:∀(k:Nat) (w:By) (t:Nat),k<i->ws[k]?=some (w,t)->Dn aC c mt t 4
theorem aJe(h:mt[t]?=some false):(mt.set t true).count true=mt.count true+1:=by
 induction mt generalizing t with
 | nil=>cases h
 | cons b bs ih=>
  cases t with
  | zero=>simp at h;subst h;simp
  | succ t=>simp at h;rw[set_cons_succ,List.count_cons,List.count_cons,ih h];omega
theorem aJf{k:Nat}(h:mt[k]?=some true):(mt.set t true)[k]?=some true:=by
 have hk:=(bU h).1;rw[getElem?_set];split
 ·rename_i e;subst e;simp[hk]
 ·exact h
theorem Dn.up{aC:List iL}{c:UInt8}(h:Dn aC c mt t j)(u:Nat):Dn aC c (mt.set u true) t j:=⟨h.1,fun l hl=>(h.2 l hl).imp id fun x=>⟨x.1,aJf x.2⟩⟩
section
variable {v:View} {aC:List iL} {fr:Nat} {c:UInt8} {ws:List (By × Nat)} {mt:List Bool} {i:Nat}
theorem UI.start(hfr:fr<aC.length):UI aC fr c [([],fr)] ((replicate aC.length false).set fr true) 0:=by
 have hs:(replicate aC.length false)[fr]?=some false:=by rw[getElem?_replicate,aP hfr]
 have hf:((replicate aC.length false).set fr true)[fr]?=some true:=by rw[getElem?_set];simp[hfr]
 refine⟨rfl,fun k w t h=>?_,by simp,fun t h=>?_,?_,fun k w t h=>by omega⟩
 ·match k,h with
  | 0,h=>simp at h;obtain⟨rfl,rfl⟩:=h;exact⟨fun _ hc=>(by cases hc),by simp,hfr,hf,fun z _=>rfl⟩
  | k+1,h=>simp at h
 ·by_cases e:fr=t
  ·subst e;exact⟨0,[],rfl⟩
  ·rw[List.getElem?_set_ne e,getElem?_replicate]at h;split at h <;> simp at h
 ·rw[aJe hs];simp[List.count_replicate]
theorem UI.le(h:UI aC fr c ws mt i):ws.length<=aC.length:=by
 rw[h.cnt,<-h.ml];exact List.count_le_length
theorem UI.end_(h:UI aC fr c ws mt i)(hw:ws[i]?=some (w,t))(he:(I4 aC t).en.head?≠some c):Wb w∧w.length<=aC.length∧(kC aC fr (ak w)).head?≠some c:=by
 obtain⟨h1,h2,h3,-,h5⟩:=h.wok i w t hw;have hi:=(bU hw).1;have:=h.le;have e:=h5 [] (fun _ hx=>by cases hx);rw[append_nil]at e;exact⟨h1,by omega,by rw[e,vN];exact he⟩
theorem UI.said(h:UI aC fr c ws mt i)(hw:ws[i]?=some (w,t))(hl:l<4)(h0:(I4 aC t).sd.getD l []≠[])(he:((I4 aC t).sd.getD l []).head?≠some c):Wb (w++aT l)∧(w++aT l).length<=aC.length∧(kC aC fr (ak (w++aT l))).head?≠some c:=by
 obtain⟨h1,h2,h3,-,h5⟩:=h.wok i w t hw;have hi:=(bU hw).1;have:=h.le;have e:=h5 [l] (fun x hx=>by rw[mem_singleton.1 hx];exact hl);refine⟨aIN h1 hl,by rw[length_append];show w.length+1<=_;omega,?_⟩;rw[gQ,jZ hl,e,rG];cases hs:(I4 aC t).sd.getD l []with
 | nil=>exact absurd hs h0
 | cons a aa=>rw[hs]at he;simpa using he
theorem UI.push(hm:MFx v aC)(h:UI aC fr c ws mt i)(hw:ws[i]?=some (w,t))(hl:l<4)(h0:(I4 aC t).sd.getD l []=[])(hf:mt[(I4 aC t).nx.getD l 0]?=some false):UI aC fr c (ws++[(w++aT l,(I4 aC t).nx.getD l 0)]) (mt.set ((I4 aC t).nx.getD l 0) true) i:=by
 obtain⟨h1,h2,h3,h4,h5⟩:=h.wok i w t hw;have hi:=(bU hw).1;have hp:0<ws.length:=(bU h.w0).1;have hn:=hm.inn t _ l (by rw[bG h3]) hl;rw[<-oz (bG h3)]at hn;refine⟨by rw[jG hp];exact h.w0,fun k w' t' hk=>?_,by rw[length_set];exact h.ml,fun u hu=>?_,by rw[length_append,aJe hf,h.cnt];rfl,fun k w' t' hk hw'=>?_⟩
 ·by_cases hkl:k<ws.length
  ·rw[jG hkl]at hk;obtain⟨g1,g2,g3,g4,g5⟩:=h.wok k w' t' hk;exact⟨g1,g2,g3,aJf g4,g5⟩
  ·rw[mW (by omega)]at hk;have e0:k-ws.length=0:=by
    have:=(bU hk).1;simp at this;omega
   rw[e0]at hk;obtain⟨rfl,rfl⟩:=Prod.mk.inj (dY hk);refine⟨aIN h1 hl,by rw[length_append];show w.length+1<=_;omega,hn,getElem?_set_self (by rw[h.ml];exact hn),fun z hz=>?_⟩;have hz':Wd (l::z):=fun x hx=>by
    rcases mem_cons.1 hx with a | a
    ·rw[a];exact hl
    ·exact hz x a
   rw[gQ,jZ hl,append_assoc,List.singleton_append,h5 (l::z) hz',rG,h0,nil_append]
 ·by_cases e:(I4 aC t).nx.getD l 0=u
  ·subst e;exact⟨ws.length,w++aT l,by rw[mW (dH _),Nat.sub_self];rfl⟩
  ·rw[List.getElem?_set_ne e]at hu;obtain⟨k,w',hk⟩:=h.mw u hu;exact⟨k,w',by rw[jG (bU hk).1];exact hk⟩
 ·rw[jG (by omega)]at hw';exact(h.dn k w' t' hk hw').up _
theorem UI.next(h:UI aC fr c ws mt i)(hw:ws[i]?=some (w,t))(hd:Dn aC c mt t 4):UI aC fr c ws mt (i+1):=by
 refine⟨h.w0,h.wok,h.ml,h.mw,h.cnt,fun k w' t' hk hw'=>?_⟩;by_cases e:k=i
 ·subst e;rw[hw]at hw';cases hw';exact hd
 ·exact h.dn k w' t' (by omega) hw'
theorem UI.fin(hm:MFx v aC)(hfr:fr<aC.length)(h:UI aC fr c ws mt i)(hi:ws.length<=i):False:=by
 have hall:∀(z:List Nat) (k:Nat) (w:By) (t:Nat),Wd z->ws[k]?=some (w,t)->(kC aC t z).head?=some c:=by
  intro z
  induction z with
  | nil=>exact fun k w t _ hk=>(h.dn k w t (by have:=(bU hk).1;omega) hk).1
  | cons l z ih=>
   intro k w t hz hk;have hl:=hz l mem_cons_self;rw[rG];rcases(h.dn k w t (by have:=(bU hk).1;omega) hk).2 l hl with a | ⟨a,b⟩
   ·cases hs:(I4 aC t).sd.getD l []with
    | nil=>rw[hs]at a;cases a
    | cons x xs=>rw[hs]at a;simpa using a
   ·rw[a,nil_append];obtain⟨k',w',hk'⟩:=h.mw _ b;exact ih k' w' _ (fun x hx=>hz x (mem_cons_of_mem _ hx)) hk'
 have:=hm.bare fr hfr [c] fun z hz=>by
  have:=hall z 0 [] fr hz h.w0
  cases hs:kC aC fr z with
  | nil=>rw[hs]at this;cases this
  | cons x xs=>rw[hs]at this;simp at this;subst this;exact⟨xs,rfl⟩
 cases this
end
theorem aIT:∀(v w A B:By),common v w<v.length->common v w<w.length->v++A≠w++B
 | [],_,_,_,h,_=>by simp[common]at h
 | _::_,[],_,_,_,h=>by simp[common]at h
 | a::v,b::w,A,B,h,k=>fun e=>by
  rw[cons_append,cons_append]at e;obtain⟨e1,e2⟩:=List.cons.inj e;rw[common,aP e1]at h k;exact aIT v w A B (by simpa using h) (by simpa using k) e2
theorem aJn(h:common v w<v.length)(k:¬common v w<w.length):common v w=w.length∧∃c r,v[common v w]?=some c∧v=w++c::r:=by
 have e:common v w=w.length:=by have:=ul v w;omega
 have t:=Bo v w;rw[e,take_length]at t;refine⟨e,v[w.length]'(by omega),v.drop (w.length+1),by rw[e,bG (by omega)],?_⟩;rw[<-kJ (by omega)];conv=>lhs;rw[<-take_append_drop w.length v,t]
theorem aJg(h:¬common v w<v.length)(k:common v w<w.length):common v w=v.length∧∃c r,w[common v w]?=some c∧w=v++c::r:=by
 have e:common v w=v.length:=by have:=Be v w;omega
 have t:=Bo v w;rw[e,take_length]at t;refine⟨e,w[v.length]'(by omega),w.drop (v.length+1),by rw[e,bG (by omega)],?_⟩;rw[<-kJ (by omega)];conv=>lhs;rw[<-take_append_drop v.length w,<-t]
def Dp(x y:List iL)(mt:List Bool)(a b j:Nat):Prop:=(I4 x a).en=(I4 y b).en∧∀l,l<j->(I4 x a).sd.getD l []=(I4 y b).sd.getD l []∧mt[(I4 x a).nx.getD l 0*y.length+(I4 y b).nx.getD l 0]?=some true
structure DI(x y:List iL)(ws:List (By × Nat × Nat))(mt:List Bool)(i:Nat):Prop where
 w0:ws[0]?=some ([],0,0)
 wok:∀(k:Nat) (w:By) (a b:Nat),ws[k]?=some (w,a,b)->Wb w∧w.length<=k∧a<x.length∧b<y.length∧mt[a*y.length+b]?=some true∧∃o:By,∀z,Wd z->kC x 0 (ak w++z)=o++kC x a z∧kC y 0 (ak w++z)=o++kC y b z
 ml:mt.length=x.length*y.length
 mw:∀a b:Nat,a<x.length->b<y.length->mt[a*y.length+b]?=some true->∃(k:Nat) (w:By),ws[k]?=some (w,a,b)
 cnt:ws.length=mt.count true
 dn:∀(k:Nat) (w:By) (a b:Nat),k<i->ws[k]?=some (w,a,b)->Dp x y mt a b 4
def Parts(x y:List iL)(w:By):Prop:=Wb w∧w.length<=50000∧kC x 0 (ak w)≠kC y 0 (ak w)
theorem Dp.up(h:Dp x y mt a b j)(u:Nat):Dp x y (mt.set u true) a b j:=⟨h.1,fun l hl=>⟨(h.2 l hl).1,aJf (h.2 l hl).2⟩⟩
theorem aI9{a' b':Nat}(hb:b<m)(hb':b'<m)(h:a*m+b=a'*m+b'):a=a'∧b=b':=by
 have e1:(a*m+b)/m=a:=by rw[Nat.add_comm,Nat.add_mul_div_right _ _ (by omega),Nat.div_eq_of_lt hb,Nat.zero_add]
 have e2:(a'*m+b')/m=a':=by rw[Nat.add_comm,Nat.add_mul_div_right _ _ (by omega),Nat.div_eq_of_lt hb',Nat.zero_add]
 have e:a=a':=by rw[<-e1,h,e2]
 subst e;exact⟨rfl,by omega⟩
theorem aJo{n:Nat}(ha:a<n)(hb:b<m):a*m+b<n*m:=by
 have:(a+1)*m<=n*m:=Nat.mul_le_mul_right _ ha;rw[Nat.succ_mul]at this;omega
section
variable {v v':View} {x y:List iL} {ws:List (By × Nat × Nat)} {mt:List Bool} {i:Nat}
theorem DI.start(hx:1<=x.length)(hy:1<=y.length):DI x y [([],0,0)] ((replicate (x.length*y.length) false).set 0 true) 0:=by
 have hp:=Nat.mul_pos hx hy;have hs:(replicate (x.length*y.length) false)[0]?=some false:=by rw[getElem?_replicate,aP hp]
 refine⟨rfl,fun k w a b h=>?_,by simp,fun a b ha hb h=>?_,?_,fun k w a b h=>by omega⟩
 ·match k,h with
  | 0,h=>
   obtain⟨rfl,h2⟩:=Prod.mk.inj (dY h);obtain⟨rfl,rfl⟩:=Prod.mk.inj h2;exact⟨fun _ hc=>(by cases hc),dH _,hx,hy,by rw[Nat.zero_mul];exact getElem?_set_self (by simpa using hp),[],fun z _=>⟨rfl,rfl⟩⟩
  | k+1,h=>simp at h
 ·by_cases e:0=a*y.length+b
  ·obtain⟨rfl,rfl⟩:=aI9 (m:=y.length) (a:=0) (b:=0) (a':=a) (b':=b) hy hb ((Nat.zero_mul _).symm ▸ e);exact⟨0,[],rfl⟩
  ·rw[List.getElem?_set_ne e,getElem?_replicate]at h;split at h <;> simp at h
 ·rw[aJe hs];simp[List.count_replicate]
theorem DI.le(hx:x.length<=200)(hy:y.length<=200)(h:DI x y ws mt i):ws.length<=40000:=by
 have e1:mt.count true<=mt.length:=List.count_le_length;have e2:=Nat.mul_le_mul hx hy;rw[h.cnt];rw[h.ml]at e1;omega
theorem DI.end_(hx:x.length<=200)(hy:y.length<=200)(h:DI x y ws mt i)(hw:ws[i]?=some (w,a,b))(he:(I4 x a).en≠(I4 y b).en):Parts x y w:=by
 obtain⟨h1,h2,-,-,-,o,h5⟩:=h.wok i w a b hw;have hi:=(bU hw).1;have:=h.le hx hy;obtain⟨e1,e2⟩:=h5 [] (fun _ hx=>by cases hx);rw[append_nil]at e1 e2;refine⟨h1,by omega,fun e=>he ?_⟩;rw[e1,e2,vN,vN]at e;exact append_cancel_left e
def Pt2(x y:List iL)(a b:Nat)(s t:By)(u:By):Prop:=Wb u∧u.length<=200∧((common s t<s.length∧common s t<t.length∧u=[])∨(common s t<s.length∧¬common s t<t.length∧∃c,s[common s t]?=some c∧(kC y b (ak u)).head?≠some c)∨(¬common s t<s.length∧common s t<t.length∧∃c,t[common s t]?=some c∧(kC x a (ak u)).head?≠some c))
theorem DI.said(hx:x.length<=200)(hy:y.length<=200)(h:DI x y ws mt i)(hw:ws[i]?=some (w,a,b))(hl:l<4){u:By}
  (hu:Pt2 x y ((I4 x a).nx.getD l 0) ((I4 y b).nx.getD l 0) ((I4 x a).sd.getD l []) ((I4 y b).sd.getD l []) u):Parts x y (w++aT l++u):=by
 obtain⟨h1,h2,-,-,-,o,h5⟩:=h.wok i w a b hw;have hi:=(bU hw).1;have:=h.le hx hy;obtain⟨u1,u2,u3⟩:=hu;obtain⟨e1,e2⟩:=h5 (l::ak u) (fun k hk=>by
  rcases mem_cons.1 hk with e | e
  ·rw[e];exact hl
  ·exact qX u k e)
 refine⟨fun c hc=>?_,by rw[length_append,length_append];show w.length+1+u.length<=_;omega,fun e=>?_⟩
 ·rcases mem_append.1 hc with q | q
  ·exact aIN h1 hl c q
  ·exact u1 c q
 ·rw[gQ,gQ,jZ hl,append_assoc,List.singleton_append,e1,e2]at e;have e:=append_cancel_left e;rw[rG,rG]at e;rcases u3 with ⟨c1,c2,-⟩ | ⟨c1,c2,c,c3,c4⟩ | ⟨c1,c2,c,c3,c4⟩
  ·exact aIT _ _ _ _ c1 c2 e
  ·obtain⟨-,c',r,f1,f2⟩:=aJn c1 c2;rw[c3]at f1;cases f1;rw[f2,append_assoc]at e;have e:=append_cancel_left e;exact c4 (by rw[<-e];rfl)
  ·obtain⟨-,c',r,f1,f2⟩:=aJg c1 c2;rw[c3]at f1;cases f1;rw[f2,append_assoc]at e;have e:=append_cancel_left e;exact c4 (by rw[e];rfl)
theorem DI.push(hx:MFx v x)(hy:MFx v' y)(h:DI x y ws mt i)(hw:ws[i]?=some (w,a,b))(hl:l<4)(h0:(I4 x a).sd.getD l []=(I4 y b).sd.getD l [])(hf:mt[(I4 x a).nx.getD l 0*y.length+(I4 y b).nx.getD l 0]?=some false):DI x y (ws++[(w++aT l,(I4 x a).nx.getD l 0,(I4 y b).nx.getD l 0)]) (mt.set ((I4 x a).nx.getD l 0*y.length+(I4 y b).nx.getD l 0) true) i:=by
 obtain⟨h1,h2,h3,h3',h4,o,h5⟩:=h.wok i w a b hw;have hi:=(bU hw).1;have hp:0<ws.length:=(bU h.w0).1;have hn:=hx.inn a _ l (by rw[bG h3]) hl;rw[<-oz (bG h3)]at hn;have hn':=hy.inn b _ l (by rw[bG h3']) hl;rw[<-oz (bG h3')]at hn';refine⟨by rw[jG hp];exact h.w0,fun k w' a' b' hk=>?_,by rw[length_set];exact h.ml,fun a' b' ha hb hu=>?_,by rw[length_append,aJe hf,h.cnt];rfl,fun k w' a' b' hk hw'=>?_⟩
 ·by_cases hkl:k<ws.length
  ·rw[jG hkl]at hk;obtain⟨g1,g2,g3,g3',g4,g5⟩:=h.wok k w' a' b' hk;exact⟨g1,g2,g3,g3',aJf g4,g5⟩
  ·rw[mW (by omega)]at hk;have e0:k-ws.length=0:=by
    have:=(bU hk).1;simp at this;omega
   rw[e0]at hk;obtain⟨rfl,hk2⟩:=Prod.mk.inj (dY hk);obtain⟨rfl,rfl⟩:=Prod.mk.inj hk2;refine⟨aIN h1 hl,by rw[length_append];show w.length+1<=_;omega,hn,hn',getElem?_set_self (by rw[h.ml];exact aJo hn hn'),o++(I4 x a).sd.getD l [],fun z hz=>?_⟩;have hz':Wd (l::z):=fun x hx=>by
    rcases mem_cons.1 hx with q | q
    ·rw[q];exact hl
    ·exact hz x q
   obtain⟨e1,e2⟩:=h5 (l::z) hz';rw[gQ,jZ hl,append_assoc,List.singleton_append,e1,e2,rG,rG,h0,append_assoc];exact⟨rfl,by rw[append_assoc]⟩
 ·by_cases e:(I4 x a).nx.getD l 0*y.length+(I4 y b).nx.getD l 0=a'*y.length+b'
  ·obtain⟨rfl,rfl⟩:=aI9 hn' hb e;exact⟨ws.length,w++aT l,by rw[mW (dH _),Nat.sub_self];rfl⟩
  ·rw[List.getElem?_set_ne e]at hu;obtain⟨k,w',hk⟩:=h.mw a' b' ha hb hu;exact⟨k,w',by rw[jG (bU hk).1];exact hk⟩
 ·rw[jG (by omega)]at hw';exact(h.dn k w' a' b' hk hw').up _
theorem DI.next(h:DI x y ws mt i)(hw:ws[i]?=some (w,a,b))(hd:Dp x y mt a b 4):DI x y ws mt (i+1):=by
 refine⟨h.w0,h.wok,h.ml,h.mw,h.cnt,fun k w' a' b' hk hw'=>?_⟩;by_cases e:k=i
 ·subst e;rw[hw]at hw';cases hw';exact hd
 ·exact h.dn k w' a' b' (by omega) hw'
end
def aKm(B:Nat->Nat->Prop):List Nat->List Nat->Prop
 | [],[]=>True
 | a::aa,b::bb=>B a b∧aKm B aa bb
 | _,_=>False
section
variable {B:Nat->Nat->Prop}
theorem aJp(hB1:∀a b b',B a b->B a b'->b=b')(hB2:∀a a' b,B a b->B a' b->a=a'){N M:Nat}:∀(ts us:List Nat) (m r r':Nat),(∀t,t<m->B t t)->aKm B ts us->KO N ts m=some r->KO M us m=some r'->ts=us∧r=r'∧∀t,t<r->B t t
 | [],[],m,r,r',h,_,e,e'=>by cases e;cases e';exact⟨rfl,rfl,h⟩
 | [],_::_,_,_,_,_,h,_,_=>h.elim
 | _::_,[],_,_,_,_,h,_,_=>h.elim
 | t::ts,u::us,m,r,r',h,⟨h1,h2⟩,e,e'=>by
  rw[KO]at e e';split at e
  ·cases e
  split at e'
  ·cases e'
  rename_i k k';have etu:t=u:=by
   by_cases a:t<m
   ·exact hB1 t _ _ (h t a) h1
   by_cases b:u<m
   ·exact hB2 _ _ u h1 (h u b)
   omega
  subst etu;have hm:∀s,s<(if t=m then m+1 else m)->B s s:=fun s hs=>by
   by_cases a:s<m
   ·exact h s a
   ·split at hs
    ·have:s=t:=by omega
     rw[this];exact h1
    ·omega
  obtain⟨r1,r2,r3⟩:=aJp hB1 hB2 ts us _ r r' hm h2 e e';exact⟨by rw[r1],r2,r3⟩
theorem aJq(hB1:∀a b b',B a b->B a b'->b=b')(hB2:∀a a' b,B a b->B a' b->a=a'){x y:List iL}(hx4:∀q∈x,q.sd.length=4∧q.nx.length=4)(hy4:∀q∈y,q.sd.length=4∧q.nx.length=4)(hst:∀a b,B a b->(I4 x a).en=(I4 y b).en∧∀l,l<4->(I4 x a).sd.getD l []=(I4 y b).sd.getD l []∧B ((I4 x a).nx.getD l 0) ((I4 y b).nx.getD l 0)):∀(xs ys:List iL) (i m:Nat),xs=x.drop i->ys=y.drop i->(∀t,t<m->B t t)->zC x.length xs i m=some x.length->zC y.length ys i m=some y.length->i<=x.length->i<=y.length->xs=ys
 | [],[],_,_,_,_,_,_,_,_,_=>rfl
 | [],q::ys,i,m,ex,ey,_,e,e',hi,_=>by
  have e:some m=some x.length:=e;rw[zC]at e';cases e;have:x.length<=i:=by
   have:=congrArg length ex;rw[length_drop]at this;simp at this;omega
  rw[aP this]at e';cases e'
 | q::xs,[],i,m,ex,ey,_,e,e',_,hi=>by
  have e':some m=some y.length:=e';rw[zC]at e;cases e';have:y.length<=i:=by
   have:=congrArg length ey;rw[length_drop]at this;simp at this;omega
  rw[aP this]at e;cases e
 | q::xs,p::ys,i,m,ex,ey,h,e,e',hi,hi'=>by
  rw[zC]at e e';split at e
  ·cases e
  rename_i hm;rw[aU hm]at e';have lx:i<x.length:=by
   have:=congrArg length ex;rw[length_drop]at this;simp at this;omega
  have ly:i<y.length:=by
   have:=congrArg length ey;rw[length_drop]at this;simp at this;omega
  rw[kJ lx]at ex;rw[kJ ly]at ey;obtain⟨q1,q2⟩:=List.cons.inj ex;obtain⟨p1,p2⟩:=List.cons.inj ey;have mq:I4 x i=q:=by rw[oz (bG lx),q1]
  have mp:I4 y i=p:=by rw[oz (bG ly),p1]
  obtain⟨s1,s2⟩:=hst i i (h i (by omega));rw[mq,mp]at s1;rw[mq,mp]at s2;have b0:=(s2 0 (by omega)).2;have b1:=(s2 1 (by omega)).2;have b2:=(s2 2 (by omega)).2;have b3:=(s2 3 (by omega)).2;split at e
  ·cases e
  split at e'
  ·cases e'
  rename_i r hr _ r' hr';have hA:aKm B [q.nx.getD 0 0,q.nx.getD 1 0,q.nx.getD 2 0,q.nx.getD 3 0] [p.nx.getD 0 0,p.nx.getD 1 0,p.nx.getD 2 0,p.nx.getD 3 0]:=⟨b0,b1,b2,b3,trivial⟩;obtain⟨n1,n2,n3⟩:=aJp hB1 hB2 _ _ _ _ _ h hA hr hr';subst n2;have f1:=hx4 q (by rw[q1];exact getElem_mem _);have f2:=hy4 p (by rw[p1];exact getElem_mem _);rw[four f1.2,four f2.2]at n1;have n4:q.sd=p.sd:=by
   have a0:=(s2 0 (by omega)).1;have a1:=(s2 1 (by omega)).1;have a2:=(s2 2 (by omega)).1;have a3:=(s2 3 (by omega)).1
   match hq:q.sd,hp:p.sd,f1.1,f2.1 with
   | [a,b,c,d],[a',b',c',d'],_,_=>
    rw[hq,hp]at a0 a1 a2 a3;simp at a0 a1 a2 a3;rw[a0,a1,a2,a3]
  have eq:q=p:=by
   cases q;cases p;simp at s1 n1 n4;rw[s1,n1,n4]
  rw[eq,aJq hB1 hB2 hx4 hy4 hst xs ys (i+1) r q2 p2 n3 e e' (by omega) (by omega)]
end
theorem DI.fin{v v':View}{ws:List (By × Nat × Nat)}{i:Nat}(hx:MFx v x)(hy:MFx v' y)(h:DI x y ws mt i)(hi:ws.length<=i):x=y:=by
 have hst:∀a b,(∃(k:Nat) (w:By),ws[k]?=some (w,a,b))->(I4 x a).en=(I4 y b).en∧∀l,l<4->(I4 x a).sd.getD l []=(I4 y b).sd.getD l []∧∃(k:Nat) (w:By),ws[k]?=some (w,(I4 x a).nx.getD l 0,(I4 y b).nx.getD l 0):=fun a b ⟨k,w,hk⟩=>by
  obtain⟨-,-,ha,hb,-⟩:=h.wok k w a b hk;obtain⟨d1,d2⟩:=h.dn k w a b (by have:=(bU hk).1;omega) hk;refine⟨d1,fun l hl=>⟨(d2 l hl).1,h.mw _ _ ?_ ?_ (d2 l hl).2⟩⟩
  ·have:=hx.inn a _ l (bG ha) hl
   rwa [<-oz (bG ha)]at this
  ·have:=hy.inn b _ l (bG hb) hl
   rwa [<-oz (bG hb)]at this
 have hrun:∀(z:List Nat) (a b:Nat),Wd z->(∃(k:Nat) (w:By),ws[k]?=some (w,a,b))->kC x a z=kC y b z:=by
  intro z
  induction z with
  | nil=>exact fun a b _ hk=>(hst a b hk).1
  | cons l z ih=>
   intro a b hz hk;have hl:=hz l mem_cons_self;obtain⟨g1,g2⟩:=(hst a b hk).2 l hl;rw[rG,rG,g1,ih _ _ (fun x hx=>hz x (mem_cons_of_mem _ hx)) g2]
 have hin:∀a b,(∃(k:Nat) (w:By),ws[k]?=some (w,a,b))->a<x.length∧b<y.length:=fun a b ⟨k,w,hk⟩=>⟨(h.wok k w a b hk).2.2.1,(h.wok k w a b hk).2.2.2.1⟩
 have b1:∀a b b',(∃(k:Nat) (w:By),ws[k]?=some (w,a,b))->(∃(k:Nat) (w:By),ws[k]?=some (w,a,b'))->b=b':=fun a b b' p q=>
  hy.one b b' (hin a b p).2 (hin a b' q).2 fun z hz=>by rw[<-hrun z a b hz p,hrun z a b' hz q]
 have b2:∀a a' b,(∃(k:Nat) (w:By),ws[k]?=some (w,a,b))->(∃(k:Nat) (w:By),ws[k]?=some (w,a',b))->a=a':=fun a a' b p q=>
  hx.one a a' (hin a b p).1 (hin a' b q).1 fun z hz=>by rw[hrun z a b hz p,hrun z a' b hz q]
 have hz:∀t,t<1->∃(k:Nat) (w:By),ws[k]?=some (w,t,t):=fun t ht=>by
  have e:t=0:=by omega
  subst e;exact⟨0,[],h.w0⟩
 exact aJq (B:=fun a b=>∃(k:Nat) (w:By),ws[k]?=some (w,a,b)) b1 b2 hx.four hy.four hst x y 0 1 rfl rfl hz hx.num hy.num (Nat.zero_le _) (Nat.zero_le _)
end Th
section
open Go.RowKit
attribute [local go_sem ↓] Go.wp_at_zero Go.wp_at_succ
theorem Kt{s:ByteArray}(h:0<s.size):s.data.toList.head?=some s[0]:=by
 rw[head?_eq_getElem?];exact tZ h
theorem aI3(s:ByteArray)(c:UInt8)(w:World):J1 111 #[.string s,.int .u8 c.toNat] w fun e w'=>e=.returned (.bool (decide (s.data.toList.head?=some c)))∧w'=w:=by
 by_cases h0:0<s.size
 ·have hs:s.toList.isEmpty=false:=by rw[fG];exact lT (by omega)
  have hi:(0:Int)<(s.size:Int):=by omega
  have hd:decide (0<s.size)=true:=decide_eq_true h0;rw[Kt h0];by_cases hc:s[0]=c
  ·have e:decide (some s[0]=some c)=true:=decide_eq_true (by rw[hc]);rw[e];have hne:((s[0].toNat:Int)==(c.toNat:Int))=true:=by rw[hc];simp
   clear e hc;go_enter func111,ntmps111;go_wp2;go_ret;exact⟨rfl,rfl⟩
  ·have e:decide (some s[0]=some c)=false:=lT (fun h=>hc (dY h));rw[e];have hne:((s[0].toNat:Int)==(c.toNat:Int))=false:=by
    rw[beq_eq_false_iff_ne];intro h;exact hc (UInt8.toNat_inj.1 (by omega))
   clear e hc;go_enter func111,ntmps111;go_wp2;go_ret;exact⟨rfl,rfl⟩
 ·have hs:s.toList.isEmpty=true:=by rw[fG];exact decide_eq_true (by omega)
  have e:decide (s.data.toList.head?=some c)=false:=by
   rw[head?_eq_getElem?,Dj (by omega)];rfl
  rw[e];go_enter func111,ntmps111;go_wp2;go_ret;exact⟨rfl,rfl⟩
end
namespace Th
open M2 (iL)
variable {aC:List iL} {c:UInt8} {f i t:Nat} {ws:List (By × Nat)} {mt:List Bool} {wi:By} {q:iL}
def Un(aC:List iL)(fr:Nat)(c:UInt8)(z:By):Prop:=Wb z∧z.length<=aC.length∧(kC aC fr (ak z)).head?≠some c
def unL(q:iL)(c:UInt8)(wi:By):Nat->Nat->List (By × Nat)->List Bool->By ⊕ (List (By × Nat) × List Bool)
 | 0,_,ws,mt=>.inr (ws,mt)
 | f+1,l,ws,mt=>if q.sd.getD l []=[] then (if mt[q.nx.getD l 0]?=some false then unL q c wi f (l+1) (ws++[(wi++M2.aT l,q.nx.getD l 0)]) (mt.set (q.nx.getD l 0) true) else unL q c wi f (l+1) ws mt)
  else if (q.sd.getD l []).head?=some c then unL q c wi f (l+1) ws mt else .inl (wi++M2.aT l)
def aJh(aC:List iL)(c:UInt8):Nat->Nat->List (By × Nat)->List Bool->By
 | 0,_,_,_=>[]
 | f+1,i,ws,mt=>if (I4 aC (ws.getD i ([],0)).2).en.head?=some c then
   match unL (I4 aC (ws.getD i ([],0)).2) c (ws.getD i ([],0)).1 4 0 ws mt with
   | .inl r=>r
   | .inr p=>aJh aC c f (i+1) p.1 p.2
  else (ws.getD i ([],0)).1
def unR(aC:List iL)(c:UInt8)(f i:Nat)(x:By ⊕ (List (By × Nat) × List Bool)):By:=match x with
 | .inl r=>r
 | .inr p=>aJh aC c f (i+1) p.1 p.2
def unM(aC:List iL)(fr:Nat)(c:UInt8):By:=aJh aC c 201 0 [([],fr)] ((replicate aC.length false).set fr true)
theorem aJ5(hw:ws[i]?=some (wi,t))(hq:I4 aC t=q)(he:q.en.head?=some c):aJh aC c (f+1) i ws mt=unR aC c f i (unL q c wi 4 0 ws mt):=by
 have e:ws.getD i ([],0)=(wi,t):=by rw[fM,hw];rfl
 rw[aJh,e,aP (by show (I4 aC t).en.head?=_;rw[hq];exact he)];show _=unR aC c f i (unL q c wi 4 0 ws mt);rw[<-hq];rfl
theorem aKb(hw:ws[i]?=some (wi,t))(hq:I4 aC t=q)(he:¬q.en.head?=some c):aJh aC c (f+1) i ws mt=wi:=by
 have e:ws.getD i ([],0)=(wi,t):=by rw[fM,hw];rfl
 rw[aJh,e,aU (by show ¬(I4 aC t).en.head?=_;rw[hq];exact he)]
end Th
section
open Go.RowKit
attribute [local go_sem ↓] Go.wp_at_zero Go.wp_at_succ
def WyE:Enc (List UInt8 × Nat):=⟨234,2,fun p=>[.string ⟨p.1.toArray⟩,I p.2],fun _=>rfl⟩
theorem aJV:(prog.info? 234).map (fun i=>(i.zero,i.size,i.bytes))=some (some (.agg #[.string ⟨#[]⟩,I 0]),2,24):=by kernel_rfl
theorem aJa(n k:Nat):((Array.replicate n (Value.bool false)).setIfInBounds k (.bool true))=(((replicate n false).set k true).flatMap lD.f).toArray:=by
 have e:∀l:List Bool,l.flatMap lD.f=l.map Value.bool:=fun l=>by
  induction l with
  | nil=>rfl
  | cons a l ih=>rw[flatMap_cons,ih];rfl
 rw[e,map_set,map_replicate];apply Array.ext';simp
structure UW(w:World)(S n:Nat)(mt:List Bool)(u:Value)(ws:List (List UInt8 × Nat))(wr:World):Prop where
 mt:Row lD wr (Jn S n n) mt
 ws:Row WyE wr u ws
 ne:∀q,u.ownBlock=some q->S<q
 md:Mod No w wr
theorem UW.no{w:World}{S n:Nat}{mt:List Bool}{u:Value}{ws:List (List UInt8 × Nat)}{wr wr':World}(h:UW w S n mt u ws wr)(hm:Mod No wr wr'):UW w S n mt u ws wr':=⟨h.mt.no hm,h.ws.no hm,h.ne,h.md.no hm⟩
theorem aI4(w:World)(vs:Value)(aC:List iL)(fr:Nat)(c:UInt8)(vv:M2.View)(hm:MFx vv aC)(hrow:Row BO w vs aC)(hfr:fr<aC.length):J1 75 #[vs,I fr,.int .u8 c.toNat] w fun e w'=>e=.returned (.string ⟨(unM aC fr c).toArray⟩)∧Un aC fr c (unM aC fr c)∧Mod No w w':=by
 obtain⟨i0,af,hz0,hz1,hz2⟩:=info_parts aJV;obtain⟨g,cap,rfl,hg,hcap⟩:=hrow.form (by omega);have hl:=hm.le;have HU:=qH (UI.start (aC:=aC) (c:=c) hfr);obtain⟨r,hr⟩:=eX (unM aC fr c);rw[<-hr];have HR0:Hd (aJh aC c 201 0 [([],fr)] ((replicate aC.length false).set fr true)=r):=hr.symm;clear hr;obtain⟨n,hn⟩:=eX (aC.length);have HN:=qH hn;rw[<-hn]at hl hfr hcap hrow HU HR0 ⊢;have HST:=qH hrow;have HF:=qH hm;have hmk:=S9 n (by omega);have hfi:(fr:Int)<n:=by omega
 have HW0:Hd (UW w w.heap.size n ((replicate n false).set fr true) (.slice (some ⟨w.heap.size+1,0,none⟩) 1 1) [([],fr)] ((w.alloc (.cells ((Array.replicate n (Value.bool false)).setIfInBounds fr (.bool true)) 4)).alloc (.cells #[.string ⟨#[]⟩,I fr] 234))):=by
  have h1:Row lD (w.alloc (.cells ((Array.replicate n (Value.bool false)).setIfInBounds fr (.bool true)) 4)) (Jn w.heap.size n n) ((replicate n false).set fr true):=by
   have:=Row.of_block (E:=lD) (xs:=(replicate n false).set fr true) (b:=w.heap.size) (w:=w.alloc (.cells ((Array.replicate n (Value.bool false)).setIfInBounds fr (.bool true)) 4)) (by rw[aJa];exact heap_alloc_new w _) (by simp;unfold maxLen;omega);simpa using this
  refine⟨h1.alloc _,?_,fun q hq=>by cases hq;exact Nat.lt_succ_self _,((Mod.refl _ _).alloc _).alloc _⟩;have h2:Row WyE ((w.alloc (.cells ((Array.replicate n (Value.bool false)).setIfInBounds fr (.bool true)) 4)).alloc (.cells #[.string ⟨#[]⟩,I fr] 234)) (.slice (some ⟨(w.alloc (.cells ((Array.replicate n (Value.bool false)).setIfInBounds fr (.bool true)) 4)).heap.size,0,none⟩) 1 1) [([],fr)]:=Row.of_block (E:=WyE) (xs:=[([],fr)]) (heap_alloc_new _ _) (by show 1<=_;unfold maxLen;decide);rw[show (w.alloc (.cells ((Array.replicate n (Value.bool false)).setIfInBounds fr (.bool true)) 4)).heap.size=w.heap.size+1 by simp]at h2;exact h2
 clear hn hrow hm;go_enter func75,ntmps75;go_wp2_with fail;generalize (w.alloc (.cells ((Array.replicate n (Value.bool false)).setIfInBounds fr (.bool true)) 4)).alloc (.cells #[.string ⟨#[]⟩,I fr] 234)=W1 at HW0 ⊢;generalize hS:w.heap.size=S at HW0 ⊢;have HS:=qH hS;clear hmk hS;go_loopg [8,9] 201 (fun gh u8 u9 wr=>∃(i:Nat) (ws:List (List UInt8 × Nat)) (mt:List Bool),u9=I i∧i<=ws.length∧gh=201-i∧aJh aC c gh i ws mt=r∧UI aC fr c ws mt i∧UW w S n mt u8 ws wr)
 case atStart=>exact⟨0,_,_,rfl,by simp,rfl,HR0.o,HU.o,HW0.o⟩
 case round=>
  clear HU HW0 HR0;obtain⟨i,ws,mt,rfl,hik,hgk,hgo,hU,hW⟩:=hrel;have hwl:=hU.le;rw[<-HN.o]at hwl;obtain⟨k,hk⟩:=eX (ws.length);have HK:=qH hk;obtain⟨pa,pc,ev,-,-⟩:=hW.ws.open hk.symm;rw[<-hk]at hwl hik;by_cases hlt:i<k
  ·obtain⟨⟨wi,t⟩,hwi⟩:∃p,ws[i]?=some p:=⟨ws[i]'(by omega),bG _⟩;have hti:=(hU.wok i wi t hwi).2.2.1;obtain⟨q,hq⟩:∃q,aC[t]?=some q:=⟨aC[t]'hti,bG _⟩;have hqm:=oz hq;obtain⟨f,rfl⟩:∃f,gk=f+1:=⟨201-(i+1),by omega⟩;have Jg:=qH hgo;clear hgo;have hmd:=hW.md;have hs:=HST.o.no hmd;obtain⟨S0,S1,S2,S3,S4,N0,N1,N2,N3,hSN,a0,a1,a2,a3,a4,a5,a6,a7,a8⟩:=aAS hs t q hq;obtain⟨gw,hgw⟩:∃gw,pa=some (J gw 0):=by
    obtain⟨g2,c2,h2,-⟩:=hW.ws.form (by omega);rw[ev]at h2;injection h2 with h2 _;exact⟨g2,h2⟩
   subst hgw;have hws:=hW.ws;rw[ev]at hws;have b1:wr.cell? (J gw (i*2+1))=some (I t):=hws.cell i 1 hwi rfl;have aHL:(i:Int)<k:=by omega
   have htn:(t:Int)<n:=by have:=HN.o;omega
   have aJr:=aI3 S0 c;have HSN:=qH hSN;have HW:=qH hW;have HU:=qH hU;have HQ:=qH (And.intro hwi (And.intro hq hqm));have HEV:=qH ev;clear hW hU hs hmd hws hSN hwi hq hqm hk hti;rw[ev];clear ev;go_wp2_with fail;refine(aJr _).mono ?_;rintro e w1 ⟨rfl,rfl⟩;have HE:Hd (S0.data.toList=q.en):=qH <| by rw[HSN.o.1]
   rw[HE.o];have HWa:Hd (UW w S n mt (Jn gw k pc) ws (wr.alloc (.cells #[.string S0,.string S1,.string S2,.string S3,.string S4,I N0,I N1,I N2,I N3] 104))∧aG (wr.alloc (.cells #[.string S0,.string S1,.string S2,.string S3,.string S4,I N0,I N1,I N2,I N3] 104)) wr.heap.size [.string S0,.string S1,.string S2,.string S3,.string S4,I N0,I N1,I N2,I N3] 104):=⟨by have:=HW.o.no ((Mod.refl _ _).alloc (.cells #[.string S0,.string S1,.string S2,.string S3,.string S4,I N0,I N1,I N2,I N3] 104));rw[HEV.o]at this;exact this,heap_alloc_new wr _⟩;have hSQ:S<wr.heap.size:=by
    obtain⟨g2,c2,h2,h3,-⟩:=HW.o.mt.form (by rw[HU.o.ml,<-HN.o];omega);injection h2 with h2 _;cases h2;exact h3
   have aKn:gw<wr.heap.size:=by
    have h1:=HW.o.ws;rw[HEV.o]at h1;obtain⟨g2,c2,h2,h3,-⟩:=h1.form (by rw[<-HK.o];omega);injection h2 with h2 _;cases h2;exact h3
   generalize wr.alloc (.cells #[.string S0,.string S1,.string S2,.string S3,.string S4,I N0,I N1,I N2,I N3] 104)=wa at HWa ⊢;clear HW HEV b1 a0 a1 a2 a3 a4 a5 a6 a7 a8 aJr;by_cases he:q.en.head?=some c
   ·have hd:=decide_eq_true he;rw[hd];have HHE:=qH he;have c1:=HWa.o.2.cell 1 rfl;have c2:=HWa.o.2.cell 2 rfl;have c3:=HWa.o.2.cell 3 rfl;have c4:=HWa.o.2.cell 4 rfl;clear hd he;go_wp2_with fail;clear c1 c2 c3 c4;generalize wr.heap.size=Q at HWa hSQ aKn ⊢;have HD0:Hd (Dn aC c mt t 0):=⟨by rw[HQ.o.2.2];exact HHE.o,fun l hl=>absurd hl (by omega)⟩;have hti:t<n:=by omega
    go_loopg [8,49] 4 (fun gh u8 u49 wx=>∃(l:Nat) (ws:List (List UInt8 × Nat)) (mt:List Bool),l<=4∧gh=4-l∧u49=I l∧unR aC c f i (unL q c wi gh l ws mt)=r∧ws[i]?=some (wi,t)∧UI aC fr c ws mt i∧Dn aC c mt t l∧UW w S n mt u8 ws wx∧aG wx Q [.string S0,.string S1,.string S2,.string S3,.string S4,I N0,I N1,I N2,I N3] 104∧∀q,u8.ownBlock=some q->q≠Q)
    case atStart=>exact⟨0,ws,mt,by omega,rfl,rfl,by rw[<-aJ5 HQ.o.1 HQ.o.2.2 HHE.o];exact Jg.o,HQ.o.1,HU.o,HD0.o,HWa.o.1,HWa.o.2,fun q hq=>by cases hq;exact Nat.ne_of_lt aKn⟩
    case round=>
     clear HWa HU HD0 aKn Jg;obtain⟨l,ws,mt,hl4,hgl,rfl,hgo,hwi,hU,hD,hW,hB,hnQ⟩:=hrel;by_cases hll:l<4
     ·have yZ:(l:Int)<4:=by omega
      have hix:=aJ2 l hll S1 S2 S3 S4;obtain⟨f2,rfl⟩:∃f2,gk=f2+1:=⟨4-(l+1),by omega⟩;rw[unL]at hgo;have Jg:=qH hgo;clear hgo;have hX:[S1,S2,S3,S4].getD l ⟨#[]⟩=⟨(q.sd.getD l []).toArray⟩:=by
       rw[HSN.o.2.1]
       match l,hll with
       | 0,_=>rfl
       | 1,_=>rfl
       | 2,_=>rfl
       | 3,_=>rfl
      have hcn:∀wx,aG wx Q [.string S0,.string S1,.string S2,.string S3,.string S4,I N0,I N1,I N2,I N3] 104->wx.cell? (J Q (5+l))=some (I ((q.nx.getD l 0:Nat):Int)):=fun wx hB=>by
       have h:=HSN.o.2.2;simp only[Tx.nexts,List.cons.injEq,and_true]at h;obtain⟨h0,h1,h2,h3⟩:=h
       match l,hll with
       | 0,_=>rw[<-h0];exact hB.cell 5 rfl
       | 1,_=>rw[<-h1];exact hB.cell 6 rfl
       | 2,_=>rw[<-h2];exact hB.cell 7 rfl
       | 3,_=>rw[<-h3];exact hB.cell 8 rfl
      obtain⟨X,hXe⟩:=eX ([S1,S2,S3,S4].getD l ⟨#[]⟩);rw[<-hXe]at hix hX;obtain⟨N,hNe⟩:=eX (q.nx.getD l 0);rw[<-hNe]at hcn;obtain⟨k2,hk2⟩:=eX (ws.length);obtain⟨pa2,pc2,ev2,-,hown⟩:=hW.ws.open hk2.symm;have hik:=(bU hwi).1;obtain⟨gv,hgv⟩:∃gv,pa2=some (J gv 0):=by
       obtain⟨g2,c2,h2,-⟩:=hW.ws.form (by omega);rw[ev2]at h2;injection h2 with h2 _;exact⟨g2,h2⟩
      subst hgv;have aKc:=hW.ws;rw[ev2]at aKc;obtain⟨WI,hWI⟩:=eX (⟨wi.toArray⟩:ByteArray);have cw:wr.cell? (J gv (i*2))=some (.string WI):=by rw[hWI];exact aKc.cell i 0 hwi rfl
      have CW:∀o,(wr.alloc o).cell? (J gv (i*2))=some (.string WI):=fun o=>by rw[hWI];exact(aKc.alloc o).cell i 0 hwi rfl
      have cn:=hcn wr hB;have CN:=fun o=>hcn _ (hB.alloc o)
      clear hcn;have aLy:(i:Int)<k2:=by omega
      have aKy:=hU.le;have hWs:WI.size<=200:=by
       have:=(hU.wok i wi t hwi).2.1;have e:WI.size=wi.length:=by rw[hWI,aZ]
       have:=HN.o;omega
      have hl1:(l:Int)+1<=4:=by omega
      have hl2:(0:Int)<=(l:Int)+1:=by omega
      have hl5:(l:Int)<=l+1:=by omega
      have hl6:((l:Int)+1).toNat=l+1:=by omega
      have hwr:IntKind.i64.wrap ((l:Int)+1)=(l:Int)+1:=by rw[IntKind.wrap_i64];omega
      have Lj:¬9223372036854775807<WI.size+(min (l+1) 4-l):=by omega
      have HX:=qH (And.intro hX (And.intro hNe (And.intro hWI hk2)));have HW:=qH hW;have HU:=qH hU;have HD:=qH hD;have HB:=qH hB;have HNQ:=qH hnQ;have HWI:=qH hwi;have HEV:=qH ev2;rw[ev2];clear hX hXe hNe hk2 hW hU hD hB hnQ hwi aKc hWI ev2 hown;go_wp2_with fail
      go_region
      have HV:Hd (WI++(⟨#[97,98,99,100]⟩:ByteArray).extract l (l+1)=⟨(wi++aT l).toArray⟩):=qH <| by
       rw[uG l hll,HX.o.2.2.1,oD]
      generalize WI++(⟨#[97,98,99,100]⟩:ByteArray).extract l (l+1)=V at HV ⊢;have HWb:Hd (UW w S n mt (Jn gv k2 pc2) ws (wr.alloc (.cells #[.string V,I N] 234)).drew∧aG (wr.alloc (.cells #[.string V,I N] 234)).drew Q [.string S0,.string S1,.string S2,.string S3,.string S4,I N0,I N1,I N2,I N3] 104∧aG (wr.alloc (.cells #[.string V,I N] 234)).drew wr.heap.size [.string V,I N] 234∧Q<wr.heap.size∧wr.heap.size<(wr.alloc (.cells #[.string V,I N] 234)).drew.heap.size):=⟨by have:=HW.o.no (((Mod.refl _ _).alloc (.cells #[.string V,I N] 234)).drew);rw[HEV.o]at this;exact this,(HB.o.alloc _).drew,(heap_alloc_new wr _),HB.o.lt,by simp⟩;generalize (wr.alloc (.cells #[.string V,I N] 234)).drew=wb at HWb ⊢;generalize wr.heap.size=P at HWb ⊢;clear HW HB cw CW cn CN hix;have hNn:N<n:=by
       have h:=HF.o.inn t q l HQ.o.2.1 hll;rw[HX.o.2.1,HN.o];exact h
      have hNi:(N:Int)<n:=by omega
      have p0:=HWb.o.2.2.1.cell 0 rfl;have p1:=HWb.o.2.2.1.cell 1 rfl;have hXl:X.data.toList=q.sd.getD l []:=by rw[HX.o.1]
      by_cases h0:q.sd.getD l []=[]
      ·have hs0:X.toList.isEmpty=true:=by rw[toList_data,hXl,h0];rfl
       obtain⟨bt,hbt⟩:∃b,mt[N]?=some b:=⟨mt[N]'(by rw[HU.o.ml,<-HN.o];exact hNn),bG _⟩;have cm:=GH HWb.o.1.mt hbt
       cases bt with
       | true=>
        have HDn:Hd (Dn aC c mt t (l+1)):=by
         refine⟨HD.o.1,fun j hj=>?_⟩;by_cases e:j=l
         ·subst e;rw[HQ.o.2.2];exact Or.inr ⟨h0,by rw[<-HX.o.2.1];exact hbt⟩
         ·exact HD.o.2 j (by omega)
        have HG2:Hd (unR aC c f i (unL q c wi f2 (l+1) ws mt)=r):=by
         have h:=Jg.o;rw[aP h0,aU (by rw[<-HX.o.2.1,hbt];simp)]at h;exact h
        clear hbt hXl h0;go_wp2;go_roundg f2
        case measure=>omega
        case rel=>exact⟨l+1,ws,mt,by omega,by omega,by go_num,HG2.o,HWI.o,HU.o,HDn.o,HWb.o.1,HWb.o.2.1,fun q hq=>HNQ.o q (by rw[HEV.o];exact hq)⟩
       | false=>
        have HU2:Hd (UI aC fr c (ws++[(wi++aT l,N)]) (mt.set N true) i):=by
         have h:=HU.o.push HF.o HWI.o hll (by rw[HQ.o.2.2];exact h0) (by rw[HQ.o.2.2,<-HX.o.2.1];exact hbt);rw[HQ.o.2.2,<-HX.o.2.1]at h;exact h
        have HDn:Hd (Dn aC c (mt.set N true) t (l+1)):=by
         refine⟨HD.o.1,fun j hj=>?_⟩;by_cases e:j=l
         ·subst e;rw[HQ.o.2.2];exact Or.inr ⟨h0,by rw[<-HX.o.2.1];exact getElem?_set_self (by rw[HU.o.ml,<-HN.o];exact hNn)⟩
         ·exact(HD.o.up N).2 j (by omega)
        have fm:=HWb.o.1.mt.free N;have HWc:Hd (UW w S n (mt.set N true) (Jn gv k2 pc2) ws (wb.setCell (J S N) (.bool true))∧aG (wb.setCell (J S N) (.bool true)) Q [.string S0,.string S1,.string S2,.string S3,.string S4,I N0,I N1,I N2,I N3] 104∧aG (wb.setCell (J S N) (.bool true)) P [.string V,I N] 234):=⟨⟨aB4 HWb.o.1.mt hbt true,HWb.o.1.ws.other (a:=J S N) (fun e=>by have:=HWb.o.1.ne S e;omega) _,HWb.o.1.ne,HWb.o.1.md.setCell (a:=J S N) (fun h=>absurd h (by have:=HS.o;show ¬S<w.heap.size;omega)) _⟩,HWb.o.2.1.other (a:=J S N) (by show Q≠S;omega) _,HWb.o.2.2.1.other (a:=J S N) (by have:=HWb.o.2.2.2.1;show P≠S;omega) _⟩;have hPb:=HWb.o.2.2.2;have HG2:Hd (unR aC c f i (unL q c wi f2 (l+1) (ws++[(wi++aT l,N)]) (mt.set N true))=r):=by
         have h:=Jg.o;rw[aP h0,<-HX.o.2.1,aP hbt]at h;exact h
        generalize hwc:wb.setCell (J S N) (.bool true)=wc at HWc;have d0:=HWc.o.2.2.cell 0 rfl;have d1:=HWc.o.2.2.cell 1 rfl;have hPc:=HWc.o.2.2.lt;have hown:wc.ownsRow 0 234 2 (Jn gv k2 pc2) k2 (ws.flatMap WyE.f):=by
         have h:wc.ownsRow 0 234 2 (Jn gv k2 pc2) ws.length (ws.flatMap WyE.f):=HWc.o.1.ws;rw[<-HX.o.2.2.2]at h;exact h
        have aLx:k2<=200:=by have:=HX.o.2.2.2;have:=HN.o;omega
        clear hbt hXl h0;go_wp2_with (at_builtin;refine wpList_append_lies _ rfl _ _ 235 rfl 0 234 i0 _ 2 24 underlying235 af hz0 hz1 hz2 rfl (by omega) (Jn gv k2 pc2) k2 (ws.flatMap WyE.f) rfl (hown.alloc _) (J wc.heap.size 0) 1 1 [.string V,I N] rfl rfl (World.news_of_block (cs:=#[.string V,I N]) (t:=234) (fr:=(0,0)) (heap_alloc_new wc _)) (by intro u hu;simp at hu;rcases hu with rfl | rfl <;> rfl) (by omega) (by unfold maxLen;omega) (by omega) (by simp) (wc.heap.size+1) (by simp) ?_);intro gg cap2 w7 gV hgrow hat fJ;have vY:Row WyE w7 (Jn gg (k2+1) cap2) (ws++[(wi++aT l,N)]):=jq HX.o.2.2.2.symm (by rw[HV.o];rfl) gV;have Cb:gg=gv∨wc.heap.size<gg:=by
         rcases hat with e | e
         ·exact Or.inl (dY e).symm
         ·exact Or.inr (by omega)
        have aKu:∀x,(Jn gg (k2+1) cap2).ownBlock=some x->S<x:=fun x hx=>by
         cases hx;rcases Cb with e | e
         ·rw[e];exact HWc.o.1.ne gv rfl
         ·show S<gg;omega
        have xJ:Hd (UW w S n (mt.set N true) (Jn gg (k2+1) cap2) (ws++[(wi++aT l,N)]) w7):=⟨(HWc.o.1.mt.alloc _).grown hgrow (Or.inr (fun e=>by have:=HWc.o.1.ne S e.symm;omega)),vY,aKu,(HWc.o.1.md.alloc _).grown hgrow (fun x hx hlt=>absurd hlt (by have:=HWc.o.1.ne x hx;have:=HS.o;omega))⟩;have HB7:=qH ((HWc.o.2.1.alloc _).grown hgrow (fun e=>HNQ.o Q (by rw[HEV.o];exact e.symm) rfl));have HN7:Hd (∀x,(Jn gg (k2+1) cap2).ownBlock=some x->x≠Q):=fun x hx=>by
         cases hx;rcases Cb with e | e
         ·rw[e];exact HNQ.o gv (by rw[HEV.o];rfl)
         ·show gg≠Q;omega
        clear vY gV hgrow hat fJ hown hwc d0 d1 p0 p1 Cb aKu;go_wp2;go_roundg f2
        case measure=>omega
        case rel=>exact⟨l+1,_,_,by omega,by omega,by go_num,HG2.o,by rw[jG (by omega)];exact HWI.o,HU2.o,HDn.o,xJ.o,HB7.o,HN7.o⟩
      ·have hs0:X.toList.isEmpty=false:=by
        rw[toList_data,hXl];cases hc:q.sd.getD l []with
        | nil=>exact absurd hc h0
        | cons _ _=>rfl
       have aJr:=aI3 X c;rw[hXl]at aJr;by_cases he:(q.sd.getD l []).head?=some c
       ·have hd:=decide_eq_true he;rw[hd]at aJr;have HDn:Hd (Dn aC c mt t (l+1)):=by
         refine⟨HD.o.1,fun j hj=>?_⟩;by_cases e:j=l
         ·subst e;rw[HQ.o.2.2];exact Or.inl he
         ·exact HD.o.2 j (by omega)
        have HG2:Hd (unR aC c f i (unL q c wi f2 (l+1) ws mt)=r):=by
         have h:=Jg.o;rw[aU h0,aP he]at h;exact h
        clear hd he hXl h0;go_wp2_with fail;refine(aJr _).mono ?_;rintro e w1 ⟨rfl,rfl⟩;go_wp2;go_roundg f2
        case measure=>omega
        case rel=>exact⟨l+1,ws,mt,by omega,by omega,by go_num,HG2.o,HWI.o,HU.o,HDn.o,HWb.o.1,HWb.o.2.1,fun q hq=>HNQ.o q (by rw[HEV.o];exact hq)⟩
       ·have hd:=lT he;rw[hd]at aJr;have HG2:Hd (wi++aT l=r):=by
         have h:=Jg.o;rw[aU h0,aU he]at h;exact h
        have HR:Hd (Un aC fr c (wi++aT l)):=HU.o.said HWI.o hll (by rw[HQ.o.2.2];exact h0) (by rw[HQ.o.2.2];exact he);clear hd he hXl h0;go_wp2_with fail;refine(aJr _).mono ?_;rintro e w1 ⟨rfl,rfl⟩;go_wp2;go_ret;exact⟨by rw[<-HG2.o,<-HV.o];rfl,by rw[<-HG2.o];exact HR.o,HWb.o.1.md⟩
     ·obtain rfl:l=4:=by omega
      have hUn:=hU.next hwi hD;obtain rfl:gk=0:=by omega
      have Jg:=qH hgo;clear hgo hgl;have hwk:=(bU hwi).1;have HW2:=qH hW;clear hU hW hB hD;go_wp2;go_roundg f
      case measure=>omega
      case rel=>exact⟨i+1,ws,mt,by go_num,by omega,by omega,Jg.o,hUn,HW2.o⟩
   ·have hd:=lT he;rw[hd];have b0:wa.cell? (J gw (i*2))=some (.string ⟨wi.toArray⟩):=HWa.o.1.ws.cell i 0 HQ.o.1 rfl;have HG2:Hd (wi=r):=by
     have h:=Jg.o;rw[aKb HQ.o.1 HQ.o.2.2 he]at h;exact h
    have HR:Hd (Un aC fr c wi):=HU.o.end_ HQ.o.1 (by rw[HQ.o.2.2];exact he);clear hd he;go_wp2;go_ret;exact⟨by rw[<-HG2.o];rfl,by rw[<-HG2.o];exact HR.o,HWa.o.1.md⟩
  ·exact(UI.fin HF.o (by rw[<-HN.o];exact hfr) hU (by omega)).elim
end
namespace Th
open M2 (iL)
open aI (common)
def ptM(x y:List iL)(a b:Nat)(s t:By):By:=if common s t<s.length then (if common s t<t.length then [] else unM y b (s.getD (common s t) 0)) else unM x a (t.getD (common s t) 0)
end Th
section
open Go.RowKit
attribute [local go_sem ↓] Go.wp_at_zero Go.wp_at_succ
theorem aJs(w:World)(vx vy:Value)(x y:List iL)(v v':M2.View)(hx:MFx v x)(hy:MFx v' y)(rx:Row BO w vx x)(ry:Row BO w vy y)(wd:ByteArray)(a b:Nat)(ha:a<x.length)(hb:b<y.length)(s t:List UInt8)(hs:s.length<=1000)(ht:t.length<=1000)(hne:s≠t):J1 50 #[vx,vy,.agg #[.string wd,I a,I b],.string ⟨s.toArray⟩,.string ⟨t.toArray⟩] w fun e w'=>e=.returned (.string ⟨(ptM x y a b s t).toArray⟩)∧Pt2 x y a b s t (ptM x y a b s t)∧Mod No w w':=by
 have H77:Hd (∀wx,J1 77 #[.string ⟨s.toArray⟩,.string ⟨t.toArray⟩] wx fun e w'=>e=.returned (I (aI.common s t:Int))∧∃n,w'=wx.drewN n):=fun wx=>yQ ⟨s.toArray⟩ ⟨t.toArray⟩ wx (by rw[aZ];omega) (by rw[aZ];omega)
 have HY:=qH fun(c:UInt8) wx (hm:Mod No w wx)=>aI4 wx vy y b c v' hy (ry.no hm) hb
 have HX:=qH fun(c:UInt8) wx (hm:Mod No w wx)=>aI4 wx vx x a c v hx (rx.no hm) ha
 have HL:=qH (And.intro hx.le hy.le);obtain⟨n,hn⟩:=eX (aI.common s t);have HN:=qH hn;rw[<-hn]at H77;obtain⟨S,hS⟩:=eX (⟨s.toArray⟩:ByteArray);obtain⟨T,hT⟩:=eX (⟨t.toArray⟩:ByteArray);have hSs:S.size=s.length:=by rw[hS,aZ]
 have hTs:T.size=t.length:=by rw[hT,aZ]
 rw[<-hS,<-hT]at H77 ⊢;have HS:=qH (And.intro hS hT);have hle1:n<=s.length:=by rw[hn];exact Be s t
 have hle2:n<=t.length:=by rw[hn];exact ul s t
 clear hn hS hT hx hy rx ry;by_cases h1:n<s.length
 ·have h1i:(n:Int)<S.size:=by omega
  by_cases h2:n<t.length
  ·have Rx:(n:Int)<T.size:=by omega
   have HE:Hd (ptM x y a b s t=[]):=qH <| by unfold ptM;rw[<-HN.o,aP h1,aP h2]
   rw[HE.o];go_enter func50,ntmps50;go_wp2_with fail;refine(H77.o _).mono ?_;rintro e w1 ⟨rfl,k,rfl⟩;go_wp2;go_ret;exact⟨rfl,⟨fun _ h=>(by cases h),by simp,Or.inl ⟨by rw[<-HN.o];exact h1,by rw[<-HN.o];exact h2,rfl⟩⟩,((Mod.refl _ _).alloc _).drewN _⟩
  ·have Rx:¬(n:Int)<T.size:=by omega
   have hd:decide (n<S.size)=true:=decide_eq_true (by omega);have hni:(0:Int)<=(n:Int):=by omega
   have hnS:n<S.size:=by omega
   have HSn:Hd (s[aI.common s t]?=some S[n]):=qH <| by
    have h:=tZ hnS;rw[<-HN.o,<-h,HS.o.1]
   have HE:Hd (ptM x y a b s t=unM y b S[n]):=qH <| by
    have h:=HSn.o;unfold ptM;rw[fM,h,<-HN.o,aP h1,aU h2];rfl
   rw[HE.o];go_enter func50,ntmps50;go_wp2_with fail;refine(H77.o _).mono ?_;rintro e w1 ⟨rfl,k,rfl⟩;have HW2:Hd (Mod No w ((w.alloc (.cells #[.string wd,I a,I b] 121)).drewN k)∧aG ((w.alloc (.cells #[.string wd,I a,I b] 121)).drewN k) w.heap.size [.string wd,I a,I b] 121):=⟨((Mod.refl _ _).alloc _).drewN _,(heap_alloc_new w _)⟩;generalize (w.alloc (.cells #[.string wd,I a,I b] 121)).drewN k=w2 at HW2 ⊢;have c2:=HW2.o.2.cell 2 rfl;go_wp2_with fail;go_region_with (go_at_call 75;refine(HY.o (S[n]'hnS) _ (HW2.o.1.drew)).mono ?_;rintro e w9 ⟨rfl,hz,m9⟩);all_goals
    go_wp2;go_ret;exact⟨rfl,⟨hz.1,Nat.le_trans hz.2.1 HL.o.2,Or.inr (Or.inl ⟨by rw[<-HN.o];exact h1,by rw[<-HN.o];exact h2,S[n],HSn.o,hz.2.2⟩)⟩,HW2.o.1.drew.no m9⟩
 ·have h1i:¬(n:Int)<S.size:=by omega
  by_cases h2:n<t.length
  ·have Rx:(n:Int)<T.size:=by omega
   have hd:decide (n<T.size)=true:=decide_eq_true (by omega);have hni:(0:Int)<=(n:Int):=by omega
   have hnT:n<T.size:=by omega
   have HSn:Hd (t[aI.common s t]?=some T[n]):=qH <| by
    have h:=tZ hnT;rw[<-HN.o,<-h,HS.o.2]
   have HE:Hd (ptM x y a b s t=unM x a T[n]):=qH <| by
    have h:=HSn.o;unfold ptM;rw[fM (l:=t),h,<-HN.o,aU h1];rfl
   rw[HE.o];go_enter func50,ntmps50;go_wp2_with fail;refine(H77.o _).mono ?_;rintro e w1 ⟨rfl,k,rfl⟩;have HW2:Hd (Mod No w ((w.alloc (.cells #[.string wd,I a,I b] 121)).drewN k)∧aG ((w.alloc (.cells #[.string wd,I a,I b] 121)).drewN k) w.heap.size [.string wd,I a,I b] 121):=⟨((Mod.refl _ _).alloc _).drewN _,(heap_alloc_new w _)⟩;generalize (w.alloc (.cells #[.string wd,I a,I b] 121)).drewN k=w2 at HW2 ⊢;have c2:=HW2.o.2.cell 1 rfl;go_wp2_with fail;go_region_with (go_at_call 75;refine(HX.o (T[n]'hnT) _ (HW2.o.1.drew)).mono ?_;rintro e w9 ⟨rfl,hz,m9⟩);all_goals
    go_wp2;go_ret;exact⟨rfl,⟨hz.1,Nat.le_trans hz.2.1 HL.o.1,Or.inr (Or.inr ⟨by rw[<-HN.o];exact h1,by rw[<-HN.o];exact h2,T[n],HSn.o,hz.2.2⟩)⟩,HW2.o.1.drew.no m9⟩
  ·have h:=Bo s t;rw[<-HN.o,take_of_length_le (by omega),take_of_length_le (by omega)]at h;exact absurd h hne
end
namespace Th
open M2 (View iL aT)
def dM(x y:List iL):Nat->Nat->Nat->List (By × Nat × Nat)->List Bool->By × Bool
 | 0,_,_,_,_=>([],false)
 | f+1,i,l,ws,mt=>match ws[i]? with
  | none=>([],false)
  | some (w,a,b)=>if (I4 x a).en=(I4 y b).en then (if l<4 then (if (I4 x a).sd.getD l []=(I4 y b).sd.getD l [] then (if mt[(I4 x a).nx.getD l 0*y.length+(I4 y b).nx.getD l 0]?=some true then dM x y f i (l+1) ws mt else dM x y f i (l+1) (ws++[(w++aT l,(I4 x a).nx.getD l 0,(I4 y b).nx.getD l 0)]) (mt.set ((I4 x a).nx.getD l 0*y.length+(I4 y b).nx.getD l 0) true)) else (w++aT l++ptM x y ((I4 x a).nx.getD l 0) ((I4 y b).nx.getD l 0) ((I4 x a).sd.getD l []) ((I4 y b).sd.getD l []),true)) else dM x y f (i+1) 0 ws mt) else (w,true)
def dfM(x y:List iL):By × Bool:=dM x y 200010 0 0 [([],0,0)] ((replicate (x.length*y.length) false).set 0 true)
section
variable {x y:List iL} {f i l:Nat} {ws:List (By × Nat × Nat)} {mt:List Bool} {w:By} {a b:Nat}
theorem aKd(h:ws.length<=i):dM x y (f+1) i l ws mt=([],false):=by
 rw[dM,getElem?_eq_none h]
theorem aKo(hw:ws[i]?=some (w,a,b))(he:(I4 x a).en≠(I4 y b).en):dM x y (f+1) i l ws mt=(w,true):=by
 rw[dM,hw];exact aU he
theorem aKe(hw:ws[i]?=some (w,a,b))(he:(I4 x a).en=(I4 y b).en)(hl:l<4)(hs:(I4 x a).sd.getD l []≠(I4 y b).sd.getD l []):dM x y (f+1) i l ws mt=(w++aT l++ptM x y ((I4 x a).nx.getD l 0) ((I4 y b).nx.getD l 0) ((I4 x a).sd.getD l []) ((I4 y b).sd.getD l []),true):=by
 rw[dM,hw];show (if _ then _ else _)=_;rw[aP he,aP hl,aU hs]
theorem aKp(hw:ws[i]?=some (w,a,b))(he:(I4 x a).en=(I4 y b).en)(hl:l<4)(hs:(I4 x a).sd.getD l []=(I4 y b).sd.getD l [])(hm:mt[(I4 x a).nx.getD l 0*y.length+(I4 y b).nx.getD l 0]?=some true):dM x y (f+1) i l ws mt=dM x y f i (l+1) ws mt:=by
 rw[dM,hw];show (if _ then _ else _)=_;rw[aP he,aP hl,aP hs,aP hm]
theorem aKq(hw:ws[i]?=some (w,a,b))(he:(I4 x a).en=(I4 y b).en)(hl:l<4)(hs:(I4 x a).sd.getD l []=(I4 y b).sd.getD l [])(hm:mt[(I4 x a).nx.getD l 0*y.length+(I4 y b).nx.getD l 0]?=some false):dM x y (f+1) i l ws mt=dM x y f i (l+1) (ws++[(w++aT l,(I4 x a).nx.getD l 0,(I4 y b).nx.getD l 0)]) (mt.set ((I4 x a).nx.getD l 0*y.length+(I4 y b).nx.getD l 0) true):=by
 rw[dM,hw];show (if _ then _ else _)=_;rw[aP he,aP hl,aP hs,aU (by rw[hm];decide)]
theorem aKf(hw:ws[i]?=some (w,a,b))(he:(I4 x a).en=(I4 y b).en)(hl:¬l<4):dM x y (f+1) i l ws mt=dM x y f (i+1) 0 ws mt:=by
 rw[dM,hw];show (if _ then _ else _)=_;rw[aP he,aU hl]
end
def aJB(x y:List iL)(r:By × Bool):Prop:=if r.2=true then Parts x y r.1 else r.1=[]∧x=y
end Th
section
open Go.RowKit
attribute [local go_sem ↓] Go.wp_at_zero Go.wp_at_succ
variable {w:World} {q:iL} {b l:Nat}
def MtE:Enc (List UInt8 × Nat × Nat):=⟨121,3,fun p=>[.string ⟨p.1.toArray⟩,I p.2.1,I p.2.2],fun _=>rfl⟩
theorem aJb:(prog.info? 121).map (fun i=>(i.zero,i.size,i.bytes))=some (some (.agg #[.string ⟨#[]⟩,I 0,I 0]),3,32):=by kernel_rfl
structure DW(w:World)(S n:Nat)(mt:List Bool)(u:Value)(ws:List (List UInt8 × Nat × Nat))(wr:World):Prop where
 mt:Row lD wr (Jn S n n) mt
 ws:Row MtE wr u ws
 ne:∀q,u.ownBlock=some q->S<q
 md:Mod No w wr
theorem DW.no{S n:Nat}{mt:List Bool}{u:Value}{ws:List (List UInt8 × Nat × Nat)}{wr wr':World}(h:DW w S n mt u ws wr)(hm:Mod No wr wr'):DW w S n mt u ws wr':=⟨h.mt.no hm,h.ws.no hm,h.ne,h.md.no hm⟩
theorem aJ6{S0 S1 S2 S3 S4:ByteArray}{N0 N1 N2 N3:Nat}(h:S0=⟨q.en.toArray⟩∧[S1,S2,S3,S4]=(JP q).map (fun l=>(⟨l.toArray⟩:ByteArray))∧[N0,N1,N2,N3]=Tx.nexts q):[.string S0,.string S1,.string S2,.string S3,.string S4,I N0,I N1,I N2,I N3]=BO.f q:=by
 obtain⟨h0,h1,h2⟩:=h;simp only[JP,map_cons,map_nil,List.cons.injEq,and_true]at h1;simp only[Tx.nexts,List.cons.injEq,and_true]at h2;obtain⟨h3,h4,h5,h6⟩:=h1;obtain⟨h7,h8,h9,h10⟩:=h2;subst h0 h3 h4 h5 h6 h7 h8 h9 h10;rfl
theorem aIO(h:aG w b (BO.f q) 104)(hl:l<4):w.cell? (J b (1+l))=some (.string ⟨(q.sd.getD l []).toArray⟩):=by
 match l,hl with
 | 0,_=>exact h.cell 1 rfl
 | 1,_=>exact h.cell 2 rfl
 | 2,_=>exact h.cell 3 rfl
 | 3,_=>exact h.cell 4 rfl
theorem aJt(h:aG w b (BO.f q) 104)(hl:l<4):w.cell? (J b (5+l))=some (I ((q.nx.getD l 0:Nat):Int)):=by
 match l,hl with
 | 0,_=>exact h.cell 5 rfl
 | 1,_=>exact h.cell 6 rfl
 | 2,_=>exact h.cell 7 rfl
 | 3,_=>exact h.cell 8 rfl
structure DL(w:World)(S N:Nat)(x y:List iL)(r:List UInt8 × Bool)(i:Nat)(WI:ByteArray)(wi:List UInt8)(a b Q P R:Nat)(l:Nat)(ws:List (List UInt8 × Nat × Nat))(mt:List Bool)(u:Value)(wx:World):Prop where
 l4:l<=4
 wi:ws[i]?=some (wi,a,b)
 go:dM x y (200010-5*i-l) i l ws mt=r
 di:Th.DI x y ws mt i
 dp:Dp x y mt a b l
 dw:DW w S N mt u ws wx
 bq:aG wx Q [.string WI,I a,I b] 121
 bp:aG wx P (BO.f (I4 x a)) 104
 br:aG wx R (BO.f (I4 y b)) 104
 ne:∀q,u.ownBlock=some q->q≠Q∧q≠P∧q≠R
end
end Go.Proofs.YtoebidlghdidoaaGreatDoor
