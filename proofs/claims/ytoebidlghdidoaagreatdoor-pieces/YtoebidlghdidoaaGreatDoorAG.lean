import Derived.Test.YtoebidlghdidoaaGreatDoorAF
namespace Go.Proofs.YtoebidlghdidoaaGreatDoor
open List
namespace Th
open aI (Place Piece Rule PS has bit eY iW nP ku bW DF bC iZ lG isS uX allOf dS aX num cZ eP R4)
open M2 (fD BZ View aW aT dI Auto bF jR Pair Stp fH pY aA ahead' iT outgrow)
open M3 (view jO placeOf oZ Gr jy kR lead lH kS kT grow graph GG jB weigh xu xK settle eF bY idx judge fV iU find gJ y8)
variable {c:C} {fr tt:By} {l z z' nums ns w:List Nat} {ps pairs:List Pair} {last i k n:Nat} {p:Pair} {rs:List Rule} {r:Rule} {a:Auto} {v:View} {g:Gr} {found:List fH} {f:fH}
def iG:By->By
 | []=>[]
 | c=>47::c
def bH(fr tt:By)(c:C):By:=fr++62::(tt++iG c.text)
def ja(fr:By)(c:C):Option (Piece × List Place):=match bW fr ⟨true,0,0⟩ []with
 | none=>none
 | some (m,ps)=>if c.text.isEmpty then some (m,ps) else
  match c.net ps with
  | none=>none
  | some (x,ps')=>some (bC ps' m x)
structure KZ(fr tt:By):Prop where
 fl:Wb fr
 f1:1<=fr.length
 f4:fr.length<=4
 ts:∀c∈tt,isS c=true
 t4:tt.length<=4
theorem Ew(h:c.Ok):c.text.length<=8:=by
 match c,h with
 | .no,_=>simp[C.text]
 | .word u,⟨_,_,h⟩=>simp only[C.text];omega
 | .any v,⟨_,_,h⟩=>simp only[C.text,length_cons];omega
 | .or u v,⟨⟨_,_,h⟩,_,_,h2⟩=>simp only[C.text,length_append,length_cons];omega
 | .loop x y,_=>simp[C.text]
 | .ac,_=>simp[C.text]
 | .nb v,⟨_,_,h⟩=>simp only[C.text,length_append,length_cons,length_nil];omega
theorem kE{P:UInt8->Bool}:∀(w r:By),(∀c∈w,P c=true)->(∀c,r[0]?=some c->P c=false)->(w++r).takeWhile P=w
 | [],[],_,_=>rfl
 | [],c::r,_,h=>by
  rw[nil_append,takeWhile_cons,h c rfl];rfl
 | c::w,r,hw,h=>by
  rw[cons_append,takeWhile_cons,hw c mem_cons_self,aP rfl,kE w r (fun x hx=>hw x (mem_cons_of_mem _ hx)) h]
theorem Ey:∀(cs:By) (w:Piece) (ps:List Place),ps.length+cs.length<=32->∃x ps',bW cs w ps=some (x,ps')∧ps'.length=ps.length+cs.length
 | [],w,ps,_=>⟨w,ps,rfl,rfl⟩
 | c::cs,w,ps,h=>by
  rw[length_cons]at h;rw[bW,vJ (by omega)];simp only[];obtain⟨x,ps',e1,e2⟩:=Ey cs (bC (ps++[⟨aI.allOf [c] aI.aX,0⟩]) w ⟨false,bit ps.length,bit ps.length⟩).1 (bC (ps++[⟨aI.allOf [c] aI.aX,0⟩]) w ⟨false,bit ps.length,bit ps.length⟩).2 (by rw[vI];simp;omega);refine⟨x,ps',e1,?_⟩;rw[e2,vI,length_cons];simp;omega
theorem Rl(hs:KZ fr tt)(hc:c.Ok):∃wh ps,ja fr c=some (wh,ps)∧uX (bH fr tt c)=some (some ⟨fr,tt,ps,wh⟩):=by
 obtain⟨m,ps,e1,e2⟩:=Ey fr ⟨true,0,0⟩ [] (by have:=hs.f4;simp;omega);simp only[length_nil,Nat.zero_add]at e2;have hf4:=hs.f4;have hrun1:ku lG (bH fr tt c) ⟨0,false,[]⟩=(fr,⟨fr.length,false,[]⟩):=by
  unfold ku bH;simp only[drop_zero];rw[kE fr _ hs.fl (fun c hc=>by simp at hc;subst hc;decide),Nat.zero_add]
 have hget:∀i,(bH fr tt c)[fr.length+1+i]?=(tt++iG c.text)[i]?:=fun i=>by
  unfold bH;rw[mW (by omega),show fr.length+1+i-fr.length=i+1 by omega];rfl
 have htake:eY (bH fr tt c) 62 ⟨fr.length,false,[]⟩=⟨fr.length+1,false,[]⟩:=by
  unfold eY aI.sees bH;simp only[Bool.not_false,Bool.true_and];rw[mW (dH _),Nat.sub_self];rfl
 have hdrop:(bH fr tt c).drop (fr.length+1)=tt++iG c.text:=by
  apply ext_getElem?;intro j;rw[getElem?_drop,hget]
 have hcs:∀x,(iG c.text)[0]?=some x->x=47:=fun x hx=>by
  rcases ht:c.text with _ | ⟨a,r⟩
  ·rw[ht]at hx;simp[iG]at hx
  ·rw[ht]at hx;simp[iG]at hx;exact hx.symm
 have hrun2:ku isS (bH fr tt c) ⟨fr.length+1,false,[]⟩=(tt,⟨fr.length+1+tt.length,false,[]⟩):=by
  unfold ku;simp only[];rw[hdrop,kE tt _ hs.ts (fun x hx=>by rw[hcs x hx];decide)]
 have hlen:(bH fr tt c).length=fr.length+1+tt.length+(iG c.text).length:=by
  unfold bH;simp;omega
 unfold uX;simp only[hrun1,htake,hrun2];have h1:(fr.isEmpty||decide (4<fr.length)||decide (4<tt.length))=false:=by
  have a:=hs.f1;have b:=hs.t4;rcases fr with _ | ⟨x,fr⟩
  ·simp at a
  ·simp at *;omega
 rw[h1,e1];simp only[Bool.false_eq_true,if_false];have aET:aI.sees (bH fr tt c) 47 ⟨fr.length+1+tt.length,false,ps⟩=decide ((iG c.text)[0]?=some 47):=by
  unfold aI.sees;simp only[];rw[hget,mW (dH _),Nat.sub_self];rfl
 rw[aET];unfold ja;rw[e1];simp only[];have htl:=Ew hc;by_cases ht:c.text=[]
 ·have hd:decide ((iG c.text)[0]?=some 47)=false:=by rw[ht];rfl
  have hie:c.text.isEmpty=true:=by rw[ht];rfl
  rw[hd,hie];simp only[if_true,Bool.false_eq_true,if_false];refine⟨m,ps,rfl,?_⟩;rw[ht]at hlen;simp only[iG,length_nil,Nat.add_zero]at hlen;simp[hlen]
 ·obtain⟨a,r,ht'⟩:∃a r,c.text=a::r:=by
   cases hx:c.text with
   | nil=>exact absurd hx ht
   | cons a r=>exact⟨a,r,rfl⟩
  have hd:decide ((iG c.text)[0]?=some 47)=true:=by rw[ht'];rfl
  have hie:c.text.isEmpty=false:=by rw[ht'];rfl
  have hcl:(iG c.text).length=c.text.length+1:=by rw[ht'];rfl
  rw[hcl]at hlen;rw[hd,hie];simp only[if_true,Bool.false_eq_true,if_false];rw[aU (by omega)];have hat:At (bH fr tt c) (fr.length+1+tt.length+1) c.text:=by
   refine⟨fun i=>?_,?_⟩
   ·rw[show fr.length+1+tt.length+1+i=fr.length+1+(tt.length+1+i) by omega,hget,mW (by omega),show tt.length+1+i-tt.length=i+1 by omega,ht'];rfl
   ·omega
  obtain⟨x,ps',k1,k2⟩:=WZ hc ht hat (ps:=ps) (by omega);rw[k1];refine⟨(bC ps' m x).1,(bC ps' m x).2,rfl,?_⟩;rw[show aI.Uj=100 from rfl,k2];simp only[];rw[aU (by simp[hlen];omega)]
abbrev T(c:UInt8):List Bool:=allOf [c] aX
def Chain(ps:List Place)(last:Nat)(fin:Bool)(nn:Nat):By->Nat->Prop
 | [],_=>False
 | [c],i=>ps[i]?=some ⟨T c,nn⟩∧has last i=fin
 | c::d::cs,i=>ps[i]?=some ⟨T c,bit (i+1)⟩∧has last i=false∧Chain ps last fin nn (d::cs) (i+1)
def Net(fr:By)(c:C)(wh:Piece)(ps:List Place):Prop:=wh.e=false∧wh.f=bit 0∧match c with
 | .no=>Chain ps wh.l true 0 fr 0
 | .word u=>Chain ps wh.l false (bit fr.length) fr 0∧Chain ps wh.l true 0 u fr.length
 | .any v=>Chain ps wh.l false (bit fr.length) fr 0∧ps[fr.length]?=some ⟨dS [],bit (fr.length+1)⟩∧has wh.l fr.length=false∧Chain ps wh.l true 0 v (fr.length+1)
 | .or u v=>Chain ps wh.l false (bit fr.length ||| bit (fr.length+u.length)) fr 0∧Chain ps wh.l true 0 u fr.length∧Chain ps wh.l true 0 v (fr.length+u.length)
 | .loop x y=>Chain ps wh.l false (bit fr.length ||| bit (fr.length+1)) fr 0∧ps[fr.length]?=some ⟨T x,bit fr.length ||| bit (fr.length+1)⟩∧has wh.l fr.length=false∧Chain ps wh.l true 0 [y] (fr.length+1)∧ps.length=fr.length+2
 | .ac=>Chain ps wh.l false (bit fr.length) fr 0∧ps[fr.length]?=some ⟨allOf [97,99] aX,0⟩∧has wh.l fr.length=true
 | .nb v=>Chain ps wh.l false (bit fr.length) fr 0∧ps[fr.length]?=some ⟨dS [98],bit (fr.length+1)⟩∧has wh.l fr.length=false∧Chain ps wh.l true 0 v (fr.length+1)
def fK:C->Bool
 | .loop _ _=>true
 | _=>false
def Ko(ns:List Nat)(last:Nat):Nat->List Nat->List Nat
 | 0,S=>S
 | k+1,S=>Ko ns last k ((S.flatMap fun st=>if st=2^ns.length then [] else (yG st last ns 0 0).map (BZ (2^ns.length))).foldl (fun acc x=>if acc.contains x then acc else acc++[x]) S)
def onB(strict:Bool)(ns:List Nat):Bool:=(range ns.length).all fun i=>(range ns.length).all fun j=>!(has (ns.getD i 0) j)||decide (i<j)||(!strict&&decide (i=j))
def ZM(loop:Bool)(ns:List Nat)(f l:Nat):Bool:=ZH ns f l (Ko ns l 12 [f])&&decide (ns.length<=9)&&onB (!loop) ns
def OQ(fr:By)(c:C)(wh:Piece)(ps:List Place):Prop:=Net fr c wh ps∧ZM (fK c) (ps.map Place.n) wh.f wh.l=true
theorem Rn(h1:1<=fr.length)(h4:fr.length<=4):(∃a,fr=[a])∨(∃a b,fr=[a,b])∨(∃a b c,fr=[a,b,c])∨∃a b c d,fr=[a,b,c,d]:=by
 rcases fr with _ | ⟨a,_ | ⟨b,_ | ⟨c,_ | ⟨d,_ | ⟨e,fr⟩⟩⟩⟩⟩ <;> simp at h1 h4 ⊢
theorem ZN(h1:1<=fr.length)(h4:fr.length<=3):(∃a,fr=[a])∨(∃a b,fr=[a,b])∨∃a b c,fr=[a,b,c]:=by
 rcases fr with _ | ⟨a,_ | ⟨b,_ | ⟨c,_ | ⟨d,fr⟩⟩⟩⟩ <;> simp at h1 h4 ⊢
theorem Wh(h1:1<=fr.length)(h4:fr.length<=2):(∃a,fr=[a])∨∃a b,fr=[a,b]:=by
 rcases fr with _ | ⟨a,_ | ⟨b,_ | ⟨c,fr⟩⟩⟩ <;> simp at h1 h4 ⊢
theorem aDj(fr:By)(h1:1<=fr.length)(h4:fr.length<=4):∃wh ps,ja fr .no=some (wh,ps)∧OQ fr .no wh ps:=by
 obtain⟨a,rfl⟩ | ⟨a,b,rfl⟩ | ⟨a,b,c,rfl⟩ | ⟨a,b,c,d,rfl⟩:=Rn h1 h4;all_goals
  simp[ja,C.text,bW,iZ,bC,aI.iP,has,bit];refine⟨_,_,⟨rfl,rfl⟩,?_⟩;refine⟨by simp[has,bit,Net,Chain],?_⟩;simp only[map_cons,map_nil,fK];decide +kernel
theorem ZO(fr u:By)(h1:1<=fr.length)(h4:fr.length<=4)(hu:1<=u.length∧u.length<=3):∃wh ps,ja fr (.word u)=some (wh,ps)∧OQ fr (.word u) wh ps:=by
 obtain⟨a,rfl⟩ | ⟨a,b,rfl⟩ | ⟨a,b,c,rfl⟩ | ⟨a,b,c,d,rfl⟩:=Rn h1 h4;all_goals obtain⟨p,rfl⟩ | ⟨p,q,rfl⟩ | ⟨p,q,r,rfl⟩:=ZN hu.1 hu.2
 all_goals
  simp[ja,C.net,C.text,bW,iZ,bC,aI.iP,has,bit];refine⟨_,_,⟨rfl,rfl⟩,?_⟩;refine⟨by simp[has,bit,Net,Chain],?_⟩;simp only[map_cons,map_nil,fK];decide +kernel
theorem aBF(fr u:By)(h1:1<=fr.length)(h4:fr.length<=4)(hu:1<=u.length∧u.length<=2):∃wh ps,ja fr (.any u)=some (wh,ps)∧OQ fr (.any u) wh ps:=by
 obtain⟨a,rfl⟩ | ⟨a,b,rfl⟩ | ⟨a,b,c,rfl⟩ | ⟨a,b,c,d,rfl⟩:=Rn h1 h4;all_goals obtain⟨p,rfl⟩ | ⟨p,q,rfl⟩:=Wh hu.1 hu.2
 all_goals
  simp[ja,C.net,C.text,bW,iZ,bC,aI.iP,has,bit];refine⟨_,_,⟨rfl,rfl⟩,?_⟩;refine⟨by simp[has,bit,Net,Chain],?_⟩;simp only[map_cons,map_nil,fK];decide +kernel
theorem aDk(fr u v:By)(h1:1<=fr.length)(h4:fr.length<=4)(hu:1<=u.length∧u.length<=3)(hv:1<=v.length∧v.length<=2):∃wh ps,ja fr (.or u v)=some (wh,ps)∧OQ fr (.or u v) wh ps:=by
 obtain⟨a,rfl⟩ | ⟨a,b,rfl⟩ | ⟨a,b,c,rfl⟩ | ⟨a,b,c,d,rfl⟩:=Rn h1 h4;all_goals obtain⟨p,rfl⟩ | ⟨p,q,rfl⟩ | ⟨p,q,r,rfl⟩:=ZN hu.1 hu.2
 all_goals obtain⟨s,rfl⟩ | ⟨s,t,rfl⟩:=Wh hv.1 hv.2
 all_goals
  simp[ja,C.net,C.text,bW,iZ,bC,aI.iP,aI.mJ,has,bit];refine⟨_,_,⟨rfl,rfl⟩,?_⟩;refine⟨by simp[has,bit,Net,Chain],?_⟩;simp only[map_cons,map_nil,fK];decide +kernel
theorem ZP(fr:By)(x y:UInt8)(h1:1<=fr.length)(h4:fr.length<=4):∃wh ps,ja fr (.loop x y)=some (wh,ps)∧OQ fr (.loop x y) wh ps:=by
 obtain⟨a,rfl⟩ | ⟨a,b,rfl⟩ | ⟨a,b,c,rfl⟩ | ⟨a,b,c,d,rfl⟩:=Rn h1 h4;all_goals
  simp[ja,C.net,C.text,bW,iZ,bC,aI.iP,aI.sJ,has,bit];refine⟨_,_,⟨rfl,rfl⟩,?_⟩;refine⟨by simp[has,bit,Net,Chain],?_⟩;simp only[map_cons,map_nil,fK];decide +kernel
theorem aDl(fr:By)(h1:1<=fr.length)(h4:fr.length<=4):∃wh ps,ja fr .ac=some (wh,ps)∧OQ fr .ac wh ps:=by
 obtain⟨a,rfl⟩ | ⟨a,b,rfl⟩ | ⟨a,b,c,rfl⟩ | ⟨a,b,c,d,rfl⟩:=Rn h1 h4;all_goals
  simp[ja,C.net,C.text,bW,iZ,bC,aI.iP,has,bit];refine⟨_,_,⟨rfl,rfl⟩,?_⟩;refine⟨by simp[has,bit,Net,Chain],?_⟩;simp only[map_cons,map_nil,fK];decide +kernel
theorem aDm(fr u:By)(h1:1<=fr.length)(h4:fr.length<=4)(hu:1<=u.length∧u.length<=2):∃wh ps,ja fr (.nb u)=some (wh,ps)∧OQ fr (.nb u) wh ps:=by
 obtain⟨a,rfl⟩ | ⟨a,b,rfl⟩ | ⟨a,b,c,rfl⟩ | ⟨a,b,c,d,rfl⟩:=Rn h1 h4;all_goals obtain⟨p,rfl⟩ | ⟨p,q,rfl⟩:=Wh hu.1 hu.2
 all_goals
  simp[ja,C.net,C.text,bW,iZ,bC,aI.iP,has,bit];refine⟨_,_,⟨rfl,rfl⟩,?_⟩;refine⟨by simp[has,bit,Net,Chain],?_⟩;simp only[map_cons,map_nil,fK];decide +kernel
theorem aDn(h:KZ fr tt)(hc:c.Ok):∃wh ps,ja fr c=some (wh,ps)∧OQ fr c wh ps:=by
 match c,hc with
 | .no,_=>exact aDj fr h.f1 h.f4
 | .word u,hc=>exact ZO fr u h.f1 h.f4 hc.2
 | .any u,hc=>exact aBF fr u h.f1 h.f4 hc.2
 | .or u v,hc=>exact aDk fr u v h.f1 h.f4 hc.1.2 hc.2.2
 | .loop x y,_=>exact ZP fr x y h.f1 h.f4
 | .ac,_=>exact aDl fr h.f1 h.f4
 | .nb u,hc=>exact aDm fr u h.f1 h.f4 hc.2
def qh:List Nat->List Nat->Bool
 | [],_=>true
 | _::_,[]=>false
 | a::u,b::z=>(b==a)&&qh u z
def xX(x y:Nat):List Nat->Bool
 | []=>false
 | l::z=>(l==y)||(l==x&&xX x y z)
def C.YW:C->List Nat->Bool
 | .no,_=>true
 | .word u,z=>qh (ak u) z
 | .any _,[]=>false
 | .any v,_::z=>qh (ak v) z
 | .or u v,z=>qh (ak u) z||qh (ak v) z
 | .loop x y,z=>xX (num x) (num y) z
 | .ac,[]=>false
 | .ac,l::_=>l==0||l==2
 | .nb _,[]=>false
 | .nb v,l::z=>!(l==1)&&qh (ak v) z
theorem ZQ(c:UInt8){l:Nat}(hl:l<4):(T c).getD l false=(l==num c):=by
 have hn:=aIE c;unfold T allOf allOf aX;rw[fM,getElem?_set];by_cases e:num c=l
 ·rw[aP e,aP (by simpa using hn)];simp[e]
 ·rw[aU e];have e':(l==num c)=false:=by simp;omega
  rw[e']
  match l,hl with
  | 0,_=>rfl
  | 1,_=>rfl
  | 2,_=>rfl
  | 3,_=>rfl
theorem qI{ps:List Place}{p:Place}(h:ps[i]?=some p)(l:Nat)(z:List Nat):jP ps last (l::z) i=(p.t.getD l false&&(has last i||DK ps last p.n z)):=by
 rw[jP,h];rfl
theorem Ez{ps:List Place}(h:ps[i]?=none)(z:List Nat):jP ps last z i=false:=by
 cases z <;> simp[jP,h]
theorem dK(ps:List Place)(last j:Nat)(z:List Nat):DK ps last (bit j) z=jP ps last z j:=by
 rw[Bool.eq_iff_iff,aIB];have hb:∀i,has (bit j) i=true↔j=i:=fun i=>by
  rw[qE];unfold bit;rw[Nat.one_shiftLeft];by_cases e:j=i
  ·subst e;simp[Nat.testBit_two_pow_self]
  ·rw[Nat.testBit_two_pow_of_ne e];simp[e]
 constructor
 ·rintro⟨i,_,h2,h3⟩;rw[(hb i).1 h2];exact h3
 ·intro h;refine⟨j,?_,(hb j).2 rfl,h⟩;apply Classical.byContradiction;intro hn;rw[Ez (getElem?_eq_none (by omega))]at h;cases h
theorem tK(ps:List Place)(last s t:Nat)(z:List Nat):DK ps last (s ||| t) z=(DK ps last s z||DK ps last t z):=by
 rw[Bool.eq_iff_iff,Bool.or_eq_true,aIB,aIB,aIB];simp only[ZF,Bool.or_eq_true];constructor
 ·rintro⟨j,h1,h2 | h2,h3⟩
  ·exact Or.inl ⟨j,h1,h2,h3⟩
  ·exact Or.inr ⟨j,h1,h2,h3⟩
 ·rintro(⟨j,h1,h2,h3⟩ | ⟨j,h1,h2,h3⟩)
  ·exact⟨j,h1,Or.inl h2,h3⟩
  ·exact⟨j,h1,Or.inr h2,h3⟩
theorem jU{l:Nat}(h:Wd (l::z)):Wd z:=fun x hx=>h x (mem_cons_of_mem _ hx)
theorem dR{ps:List Place}{last:Nat}{fin:Bool}{nn:Nat}:∀(cs:By) (i:Nat) (z:List Nat),Chain ps last fin nn cs i->Wd z->jP ps last z i=(qh (ak cs) z&&(fin||DK ps last nn (z.drop cs.length)))
 | [],i,z,h,_=>h.elim
 | [c],i,[],h,_=>by simp[jP,qh,ak]
 | [c],i,l::z,⟨h1,h2⟩,hz=>by
  rw[qI h1,h2,ZQ c (hz l (by simp))];simp[qh,ak]
 | c::d::cs,i,[],h,_=>by simp[jP,qh,ak]
 | c::d::cs,i,l::z,⟨h1,h2,h3⟩,hz=>by
  rw[qI h1,h2,ZQ c (hz l (by simp)),dK,Bool.false_or,dR (d::cs) (i+1) z h3 (jU hz)];rw[show ak (c::d::cs)=num c::ak (d::cs) from rfl,qh,Bool.and_assoc];rfl
theorem aBG{l:Nat}(hl:l<4):(dS []).getD l false=true:=by
 match l,hl with
 | 0,_=>rfl
 | 1,_=>rfl
 | 2,_=>rfl
 | 3,_=>rfl
theorem aDo{l:Nat}(hl:l<4):(dS [98]).getD l false=!(l==1):=by
 match l,hl with
 | 0,_=>rfl
 | 1,_=>rfl
 | 2,_=>rfl
 | 3,_=>rfl
theorem aDp{l:Nat}(hl:l<4):(allOf [97,99] aX).getD l false=(l==0||l==2):=by
 match l,hl with
 | 0,_=>rfl
 | 1,_=>rfl
 | 2,_=>rfl
 | 3,_=>rfl
theorem rF{ps:List Place}{last m:Nat}{x y:UInt8}(h1:ps[m]?=some ⟨T x,bit m ||| bit (m+1)⟩)(h2:has last m=false)(h3:Chain ps last true 0 [y] (m+1)):∀z,Wd z->(jP ps last z m||jP ps last z (m+1))=xX (num x) (num y) z
 | [],_=>rfl
 | l::z,hz=>by
  have hl:=hz l (by simp);rw[qI h1,h2,ZQ x hl,dR [y] (m+1) (l::z) h3 hz,tK,dK,dK,Bool.false_or,rF h1 h2 h3 z (jU hz),xX];simp only[qh,ak,map_cons,map_nil,Bool.true_or,Bool.and_true];cases (l==num x) <;> cases (l==num y) <;> simp
theorem aBH{wh:Piece}{ps:List Place}(h:Net fr c wh ps)(hz:Wd z):DK ps wh.l wh.f z=(qh (ak fr) z&&c.YW (z.drop fr.length)):=by
 obtain⟨-,h2,h3⟩:=h;have hzd:Wd (z.drop fr.length):=fun l hl=>hz l (mem_of_mem_drop hl)
 rw[h2,dK]
 match c,h3 with
 | .no,h=>rw[dR fr 0 z h hz];simp[C.YW]
 | .word u,⟨h,k⟩=>
  rw[dR fr 0 z h hz,dK,dR u _ _ k hzd];simp[C.YW]
 | .any v,⟨h,k1,k2,k3⟩=>
  rw[dR fr 0 z h hz,dK,Bool.false_or];congr 1;rcases e:z.drop fr.length with _ | ⟨l,y⟩
  ·rfl
  ·rw[e]at hzd;rw[qI k1,k2,aBG (hzd l (by simp)),dK,dR v _ _ k3 (jU hzd)];simp[C.YW]
 | .or u v,⟨h,k1,k2⟩=>
  rw[dR fr 0 z h hz,tK,dK,dK,dR u _ _ k1 hzd,dR v _ _ k2 hzd];simp[C.YW]
 | .loop x y,⟨h,k1,k2,k3,_⟩=>
  rw[dR fr 0 z h hz,tK,dK,dK,rF k1 k2 k3 _ hzd];simp[C.YW]
 | .ac,⟨h,k1,k2⟩=>
  rw[dR fr 0 z h hz,dK,Bool.false_or];congr 1;rcases e:z.drop fr.length with _ | ⟨l,y⟩
  ·rfl
  ·rw[e]at hzd;rw[qI k1,k2,aDp (hzd l (by simp))];simp[C.YW]
 | .nb v,⟨h,k1,k2,k3⟩=>
  rw[dR fr 0 z h hz,dK,Bool.false_or];congr 1;rcases e:z.drop fr.length with _ | ⟨l,y⟩
  ·rfl
  ·rw[e]at hzd;rw[qI k1,k2,aDo (hzd l (by simp)),dK,dR v _ _ k3 (jU hzd)];simp[C.YW]
theorem ZR{s:Bool}{ps:List Place}(h:onB s (ps.map Place.n)=true)(hn:NOk ps){p:Place}{j:Nat}(hi:ps[i]?=some p)(hj:has p.n j=true):i<j∨(s=false∧i=j):=by
 unfold onB at h;simp only[all_eq_true,mem_range,length_map]at h;have hil:=(bU hi).1;have hjl:=ZG (hn p (iI hi)) hj;have:=h i hil j hjl;have e:(ps.map Place.n).getD i 0=p.n:=by rw[fM,getElem?_map,hi];rfl
 rw[e,hj]at this;simp only[Bool.not_true,Bool.false_or,Bool.or_eq_true,decide_eq_true_eq,Bool.and_eq_true,Bool.not_eq_true']at this;exact this
structure aBI(fr tt:By)(c:C)(r:Rule):Prop where
 efr:r.fr=fr
 ett:r.tt=tt
 good:GR r
 net:Net fr c r.wh r.ps
 nok:NOk r.ps
 st:∀z,Wd z->strikes r z=(qh (ak fr) z&&c.YW (z.drop fr.length))
 l9:r.ps.length<=9
 on:∀i p j,r.ps[i]?=some p->has p.n j=true->i<j∨(fK c=true∧i=j)
theorem ZT(hs:KZ fr tt)(hc:c.Ok):∃r,uX (bH fr tt c)=some (some r)∧aBI fr tt c r:=by
 obtain⟨wh,ps,e1,e2⟩:=Rl hs hc;obtain⟨wh',ps',e1',hn,hsh⟩:=aDn hs hc;rw[e1]at e1';injection e1' with e1';injection e1' with a1 a2;subst a1 a2;unfold ZM at hsh;simp only[Bool.and_eq_true,decide_eq_true_eq,length_map]at hsh;obtain⟨⟨s1,s2⟩,s3⟩:=hsh;have few:Few ⟨fr,tt,ps,wh⟩ (Ko (ps.map Place.n) wh.l 12 [wh.f]):=aDe hn.1 s1;refine⟨⟨fr,tt,ps,wh⟩,e2,rfl,rfl,⟨⟨_,few⟩,hs.f4,hs.t4⟩,hn,few.nok,fun z hz=>?_,s2,fun i p j hi hj=>?_⟩
 ·unfold strikes;rw[show (if wh.e=true then fD ps else wh.f)=wh.f by rw[hn.1];rfl,wS wh few.nok z wh.f few.fl];exact aBH hn hz
 ·rcases ZR s3 few.nok hi hj with h | ⟨h,e⟩
  ·exact Or.inl h
  ·exact Or.inr ⟨by simpa using h,e⟩
structure LR where
 fr:By
 tt:By
 c:C
structure LR.Ok(a:LR):Prop where
 side:KZ a.fr a.tt
 c:a.c.Ok
def aQ:List LR->By
 | []=>[]
 | a::l=>bH a.fr a.tt a.c++10::aQ l
def mZ:List LR->List Rule->Prop
 | [],[]=>True
 | a::l,r::rs=>aBI a.fr a.tt a.c r∧mZ l rs
 | _,_=>False
theorem FC:∀(w r:By),(∀c∈w,c≠10)->eP (w++10::r)=w.length
 | [],r,_=>by simp[eP]
 | c::w,r,h=>by
  rw[cons_append,eP,aU (h c mem_cons_self),FC w r fun x hx=>h x (mem_cons_of_mem _ hx)];rfl
theorem JM{w:By}(h:Wb w):∀c∈w,c≠10:=fun c hc=>(tJ (h c hc)).2.2.2.2.2.2.2.2
theorem aDq{c:UInt8}(h:isS c=true):c≠10:=fun e=>by subst e;revert h;decide
theorem aBJ(h:c.Ok):∀x∈c.text,x≠10:=by
 match c,h with
 | .no,_=>intro x hx;simp[C.text]at hx
 | .word u,h=>exact JM h.1
 | .any v,h=>
  intro x hx;rcases mem_cons.1 hx with rfl | hx
  ·decide
  ·exact JM h.1 x hx
 | .or u v,h=>
  intro x hx;rcases mem_append.1 hx with hx | hx
  ·exact JM h.1.1 x hx
  ·rcases mem_cons.1 hx with rfl | hx
   ·decide
   ·exact JM h.2.1 x hx
 | .loop a b,h=>
  intro x hx;simp[C.text]at hx;rcases hx with rfl | rfl | rfl
  ·exact(tJ h.1).2.2.2.2.2.2.2.2
  ·decide
  ·exact(tJ h.2.1).2.2.2.2.2.2.2.2
 | .ac,_=>
  intro x hx;simp[C.text]at hx;rcases hx with rfl | rfl | rfl | rfl <;> decide
 | .nb v,h=>
  intro x hx;rcases mem_append.1 hx with hx | hx
  ·simp at hx;rcases hx with rfl | rfl | rfl | rfl | rfl <;> decide
  ·rcases mem_append.1 hx with hx | hx
   ·exact JM h.1 x hx
   ·rw[mem_singleton.1 hx];decide
theorem aBK{a:LR}(h:a.Ok):∀x∈bH a.fr a.tt a.c,x≠10:=by
 intro x hx;unfold bH at hx;rcases mem_append.1 hx with hx | hx
 ·exact JM h.side.fl x hx
 ·rcases mem_cons.1 hx with rfl | hx
  ·decide
  ·rcases mem_append.1 hx with hx | hx
   ·exact aDq (h.side.ts x hx)
   ·rcases ht:a.c.text with _ | ⟨y,r⟩
    ·rw[ht]at hx;simp[iG]at hx
    ·rw[ht]at hx;rcases mem_cons.1 hx with rfl | hx
     ·decide
     ·exact aBJ h.c x (by rw[ht];exact hx)
theorem FH:∀(l:List LR) (f n:Nat) (acc:List Rule),l.length<f->(∀a∈l,a.Ok)->∃rs,mZ l rs∧cZ f (aQ l) n acc=if n+l.length<1∨4<n+l.length then some ([],0,2) else some (acc++rs,0,0)
 | [],f,n,acc,hf,_=>by
  obtain⟨g,rfl⟩:∃g,f=g+1:=⟨f-1,by simp at hf;omega⟩;exact⟨[],trivial,by rw[cZ];simp[aQ]⟩
 | a::l,f,n,acc,hf,h=>by
  rw[length_cons]at hf;obtain⟨g,rfl⟩:∃g,f=g+1:=⟨f-1,by omega⟩;have ha:=h a mem_cons_self;obtain⟨r,e1,e2⟩:=ZT ha.side ha.c;obtain⟨rs,h1,h2⟩:=FH l g (n+1) (if n+1<=4 then acc++[r] else acc) (by omega) fun x hx=>h x (mem_cons_of_mem _ hx)
  refine⟨r::rs,⟨e2,h1⟩,?_⟩;rw[cZ];have hne:(aQ (a::l)).isEmpty=false:=by
   have:=ha.side.f1;rw[aQ,bH]
   cases hfr:a.fr with
   | nil=>rw[hfr]at this;simp at this
   | cons=>rfl
  have hle:eP (aQ (a::l))=(bH a.fr a.tt a.c).length:=by rw[aQ];exact FC _ _ (aBK ha)
  rw[hne];simp only[Bool.false_eq_true,if_false];rw[hle];have ht:(aQ (a::l)).take (bH a.fr a.tt a.c).length=bH a.fr a.tt a.c:=by rw[aQ,take_left]
  have hd:(aQ (a::l)).drop ((bH a.fr a.tt a.c).length+1)=aQ l:=by
   rw[aQ,show bH a.fr a.tt a.c++10::aQ l=(bH a.fr a.tt a.c++[10])++aQ l by simp,show (bH a.fr a.tt a.c).length+1=(bH a.fr a.tt a.c++[10]).length by simp,drop_left]
  rw[ht,e1];simp only[];rw[aU (by rw[aQ,length_append,length_cons];omega),hd,h2,length_cons];by_cases hc:n+1+l.length<1∨4<n+1+l.length
  ·rw[aP hc,aP (by omega)]
  ·rw[aU hc,aP (show n+1<=4 by omega),aU (by omega),append_assoc];rfl
def ZU(a:LR)(z:List Nat):Bool:=qh (ak a.fr) z&&a.c.YW (z.drop a.fr.length)
def jV:List LR->List Nat->Nat × By->Nat × By
 | [],_,d=>d
 | a::l,z,d=>jV l z (if ZU a z&&decide (d.1<a.fr.length) then (a.fr.length,a.tt) else d)
def wV(l:List LR):Nat->List Nat->By
 | _,[]=>[]
 | t+1,_::z=>wV l t z
 | 0,k::z=>if 0<(jV l (k::z) (0,[])).1 then (jV l (k::z) (0,[])).2++wV l ((jV l (k::z) (0,[])).1-1) z else aT k++wV l 0 z
theorem OU:∀{l:List LR} {rs:List Rule},mZ l rs->∀{z:List Nat},Wd z->∀d,JL (fun r=>strikes r z) rs d=jV l z d
 | [],[],_,z,_,d=>rfl
 | a::l,r::rs,h,z,hz,d=>by
  rw[JL,jV,h.1.st z hz,h.1.efr,h.1.ett];exact OU h.2 hz _
theorem oK:∀{l:List LR} {rs:List Rule},mZ l rs->∀r∈rs,∃a∈l,aBI a.fr a.tt a.c r
 | [],[],_,r,hr=>by cases hr
 | a::l,q::rs,h,r,hr=>by
  rcases mem_cons.1 hr with rfl | hr
  ·exact⟨a,mem_cons_self,h.1⟩
  ·obtain⟨b,b1,b2⟩:=oK h.2 r hr;exact⟨b,mem_cons_of_mem _ b1,b2⟩
theorem yI{l:List LR}(h:mZ l rs):∀r∈rs,GR r:=fun r hr=>by
 obtain⟨a,-,ha⟩:=oK h r hr;exact ha.good
theorem aDr(h:GR r):∀a,M2.walk r=some a->a.nx.length<=60:=fun a ha=>by
 obtain⟨S,hS⟩:=h.few;obtain⟨b,b1,-,-,b4,-⟩:=OI hS;rw[b1]at ha;cases ha;exact b4
theorem tN{l:List LR}{rs:List Rule}(h:mZ l rs){v:View}(hv:view rs=some (some v)):∀(z:List Nat) (t:Nat),Wd z->out (aF v) t z=wV l t z
 | [],t,_=>by
  cases t <;> rfl
 | k::z,t,hz=>by
  have hd:=Ri hv (fun r hr=>aDr (yI h r hr)) hz;rw[OU h hz]at hd;have hk:¬4<=k:=by have:=hz k mem_cons_self;omega
  have hst:(aF v).st (kind (aF v) (k::z)) t k=aW v (kind (aF v) (k::z)) t k:=rfl;rw[out,hst];unfold aW;rw[hd];simp only[];rw[aU hk];rcases t with _ | t
  ·rw[aU (by omega),wV];by_cases h0:0<(jV l (k::z) (0,[])).1
   ·rw[aP h0,aP h0,tN h hv z _ (jU hz)]
   ·rw[aU h0,aU h0,tN h hv z _ (jU hz)]
  ·rw[aP (by omega),wV];exact tN h hv z t (jU hz)
theorem vK(h:List Bool)(l:Nat):∀(n:Nat) (nx:List R4) (h':List Bool),bF h l nx n=some h'->h'.length=n∧∀t,nx.length<=t->t<n->h'[t]?=some false
 | 0,nx,h',e=>by
  rw[bF]at e;cases e;exact⟨rfl,fun t _ ht=>by omega⟩
 | n+1,[],h',e=>by
  rw[bF]at e;rcases e2:bF h l [] n with _ | x
  ·rw[e2]at e;cases e
  ·rw[e2]at e;cases e;obtain⟨a,b⟩:=vK h l n [] x e2;refine⟨by simp[a],fun t _ ht=>?_⟩;rcases t with _ | t
   ·rfl
   ·rw[getElem?_cons_succ];exact b t (Nat.zero_le _) (by omega)
 | n+1,r::nx,h',e=>by
  rw[bF]at e;split at e
  ·cases e
  ·split at e
   ·cases e
   ·rcases e2:bF h l nx n with _ | x
    ·rw[e2]at e;cases e
    ·rw[e2]at e;cases e;obtain⟨a,b⟩:=vK h l n nx x e2;refine⟨by simp[a],fun t h1 ht=>?_⟩;rcases t with _ | t
     ·simp at h1
     ·rw[getElem?_cons_succ];exact b t (by rw[length_cons]at h1;omega) (by omega)
theorem OV(hl:a.hit.length=a.nx.length){x:List Bool}(h:HH a z x):x.length=60∧∀t,a.nx.length<=t->t<60->x[t]?=some false:=by
 cases h with
 | nil=>
  refine⟨wU _,fun t h1 h2=>?_⟩;unfold jR;rw[getElem?_take_of_lt h2,mW (by rw[hl];exact h1),getElem?_replicate,aP (by omega)]
 | cons _ e=>exact vK _ _ 60 a.nx _ e
theorem ZV(hA:xU a){k:dI}(h:KI a k.hits.length k)(d:List (Nat × By))(hz:Wd z)(hz':Wd z')(hr:∀t,t<a.nx.length->ig a t z=ig a t z'):kind (aF ⟨k,d⟩) z=kind (aF ⟨k,d⟩) z':=by
 obtain⟨x,x1,x2⟩:=rC h d z hz;obtain⟨y,y1,y2⟩:=rC h d z' hz';have e:x=y:=by
  obtain⟨l1,f1⟩:=OV hA.hl x2;obtain⟨l2,f2⟩:=OV hA.hl y2;apply ext_getElem?;intro t;rcases iK t a.nx.length with ht | ht
  ·rw[RZ hA x2 hz t ht,RZ hA y2 hz' t ht,hr t ht]
  ·rcases iK t 60 with h6 | h6
   ·rw[f1 t ht h6,f2 t ht h6]
   ·rw[getElem?_eq_none (by omega),getElem?_eq_none (by omega)]
 subst e;obtain⟨i1,e1⟩:=bU x1;obtain⟨i2,e2⟩:=bU y1;exact(getElem_inj h.nd).1 (e1.trans e2.symm)
theorem vM{l:List LR}(h:mZ l rs)(hv:view rs=some (some v))(hz:Wd z)(hz':Wd z')(hp:∀r∈rs,∀i,jP r.ps r.wh.l z i=jP r.ps r.wh.l z' i):kind (aF v) z=kind (aF v) z':=by
 obtain⟨-,-,a,ss,hl,hki,-⟩:=sZ hv;have h60:=VQ hv hl;obtain⟨a',ss',e,ha,-,ZI,-,-⟩:=tH (all:=rs) rs ⟨[],[]⟩ [] (yI h) (fun _ h=>h) ⟨rfl,fun t l ht=>by simp at ht⟩ (fun s h=>by cases h) (fun t ht=>by simp at ht);rw[hl]at e;cases e;refine ZV ⟨ha.hl,h60,ha.en⟩ hki v.jX hz hz' fun t ht=>?_
 obtain⟨r,hr,st,hst,hrun⟩:=ZI t ht;rw[hrun z hz,hrun z' hz'];obtain⟨q,-,hq⟩:=oK h r hr;rcases Nat.eq_or_lt_of_le hst with e | hlt
 ·rw[e,<-o8,zQ,zQ]
 ·rw[wS r.wh hq.nok z st hlt,wS r.wh hq.nok z' st hlt];unfold DK;congr 1
  funext j
  rw[hp r hr j]
theorem ZW{l:List LR}(h:mZ l rs)(hv:view rs=some (some v))(hno:∀a∈l,fK a.c=false)(p z z':List Nat)(hp:p.length=9)(hz:Wd (p++z))(hz':Wd (p++z')):kind (aF v) (p++z)=kind (aF v) (p++z'):=by
 refine vM h hv hz hz' fun r hr i=>?_
 obtain⟨a,ha,hq⟩:=oK h r hr;refine Am (fun i p j h1 h2=>?_) z z' p i (by have:=hq.l9;omega);rcases hq.on i p j h1 h2 with h | ⟨h,-⟩
 ·exact h
 ·rw[hno a ha]at h;cases h
theorem aBL{l:List LR}(h:mZ l rs)(hv:view rs=some (some v)){x:Nat}(hx:x<4)(hz:Wd z)(hk:9<=k):kind (aF v) (replicate (k+1) x++z)=kind (aF v) (replicate k x++z):=by
 have hw:∀k,Wd (replicate k x++z):=fun k y hy=>by
  rcases mem_append.1 hy with hy | hy
  ·rw[eq_of_mem_replicate hy];exact hx
  ·exact hz y hy
 refine vM h hv (hw _) (hw _) fun r hr i=>?_
 obtain⟨a,ha,hq⟩:=oK h r hr;refine OH (fun i p j h1 h2=>?_) x z 9 i k (by have:=hq.l9;omega) hk;rcases hq.on i p j h1 h2 with h | ⟨-,h⟩ <;> omega
theorem Ap{x y:Nat}:∀(p z z':List Nat),xX x y (p++z)≠xX x y (p++z')->∀c∈p,c=x
 | [],_,_,_,c,hc=>by cases hc
 | a::p,z,z',h,c,hc=>by
  rw[cons_append,cons_append,xX,xX]at h;by_cases h1:a=y
  ·simp[h1]at h
  ·by_cases h2:a=x
   ·rcases mem_cons.1 hc with rfl | hc
    ·exact h2
    ·refine Ap (y:=y) p z z' (fun e=>h ?_) c hc;rw[e]
   ·have e1:(a==y)=false:=by simpa using h1
    have e2:(a==x)=false:=by simpa using h2
    rw[e1,e2]at h;simp at h
theorem Aq:∀(u p z z':List Nat),u.length<=p.length->qh u (p++z)=qh u (p++z')
 | [],_,_,_,_=>by simp[qh]
 | a::u,[],_,_,h=>by simp at h
 | a::u,b::p,z,z',h=>by
  rw[cons_append,cons_append,qh,qh,Aq u p z z' (by simpa using h)]
theorem FM{ps:List Place}{last:Nat}{fin:Bool}{nn:Nat}:∀(k:Nat) (cs:By) (i:Nat),Chain ps last fin nn cs i->k<cs.length->Chain ps last fin nn (cs.drop k) (i+k)
 | 0,cs,i,h,_=>h
 | k+1,[],i,h,_=>h.elim
 | k+1,[c],i,h,hk=>by simp at hk
 | k+1,c::d::cs,i,h,hk=>by
  have:=FM k (d::cs) (i+1) h.2.2 (by simp at hk ⊢;omega);rw[show i+(k+1)=i+1+k by omega];exact this
theorem Ro{a:LR}(h:aBI a.fr a.tt a.c r)(h4:a.fr.length<=4){p:List Nat}(hp:9<=p.length)(hz:Wd (p++z))(hz':Wd (p++z'))(hne:jP r.ps r.wh.l (p++z) i≠jP r.ps r.wh.l (p++z') i):∃x,∀c∈p.drop 4,c=x:=by
 by_cases hlo:fK a.c=true
 ·obtain⟨x,y,hc⟩:∃x y,a.c=.loop x y:=by
   cases hac:a.c with
   | loop x y=>exact⟨x,y,rfl⟩
   | _=>rw[hac]at hlo;cases hlo
  have hn:=h.net;rw[hc]at hn;obtain⟨-,-,k0,k1,k2,k3,k4⟩:=hn;refine⟨num x,?_⟩;have hsub:∀k,k<=4->(∀c∈p.drop k,c=num x)->∀c∈p.drop 4,c=num x:=fun k hk hall c hc=>by
   apply hall;rw[show 4=k+(4-k) by omega,<-drop_drop]at hc;exact mem_of_mem_drop hc
  rcases iK i a.fr.length with hi | hi
  ·have kd:=FM i a.fr 0 k0 hi;rw[Nat.zero_add]at kd;rw[dR _ i _ kd hz,dR _ i _ kd hz',Aq _ p z z' (by rw[mP,length_drop];omega)]at hne;have hlen:(a.fr.drop i).length<=p.length:=by rw[length_drop];omega
   rw[drop_append_of_le_length hlen,drop_append_of_le_length hlen,tK,tK,dK,dK,dK,dK]at hne;have hw:∀{z},Wd (p++z)->Wd (p.drop (a.fr.drop i).length++z):=fun hz c hc=>by
    rcases mem_append.1 hc with hc | hc
    ·exact hz c (mem_append_left _ (mem_of_mem_drop hc))
    ·exact hz c (mem_append_right _ hc)
   rw[rF k1 k2 k3 _ (hw hz),rF k1 k2 k3 _ (hw hz')]at hne;exact hsub (a.fr.drop i).length (by rw[length_drop];omega) (Ap _ z z' fun e=>hne (by rw[e]))
  ·obtain⟨b,q,rfl⟩:∃b q,p=b::q:=by
    cases p with
    | nil=>simp at hp
    | cons b q=>exact⟨b,q,rfl⟩
   rcases Nat.eq_or_lt_of_le hi with hi | hi
   ·subst hi;rw[cons_append,cons_append,qI k1,qI k1,k2,tK,tK,dK,dK,dK,dK,rF k1 k2 k3 (q++z) (jU hz),rF k1 k2 k3 (q++z') (jU hz')]at hne;exact hsub 1 (by omega) (Ap q z z' fun e=>hne (by rw[e]))
   ·rcases Nat.eq_or_lt_of_le (show a.fr.length+1<=i from hi)with hi | hi
    ·subst hi;exfalso;apply hne;rw[dR _ _ _ k3 hz,dR _ _ _ k3 hz'];simp only[Bool.true_or,Bool.and_true];exact Aq _ (b::q) z z' (by simp[ak])
    ·exfalso;apply hne;have hpi:r.ps[i]?=none:=getElem?_eq_none (by omega);rw[Ez hpi,Ez hpi]
 ·exfalso;apply hne;refine Am (fun i p j h1 h2=>?_) z z' p i (by have:=h.l9;omega);rcases h.on i p j h1 h2 with h | ⟨h,-⟩
  ·exact h
  ·exact absurd h hlo
theorem aBM{l:List LR}(h:mZ l rs)(ho:∀a∈l,a.Ok)(hv:view rs=some (some v)){p:List Nat}(hp:9<=p.length)(hz:Wd (p++z))(hz':Wd (p++z'))(hne:kind (aF v) (p++z)≠kind (aF v) (p++z')):∃x,∀c∈p.drop 4,c=x:=by
 apply Classical.byContradiction;intro hno;refine hne (vM h hv hz hz' fun r hr i=>?_);apply Classical.byContradiction;intro hd;obtain⟨a,ha,hq⟩:=oK h r hr;exact hno (Ro hq (ho a ha).side.f4 hp hz hz' hd)
def BK(n:Nat)(pairs:List Pair)(nums:List Nat):Prop:=(∀p∈pairs,∃u,nums[placeOf n p]?=some (u+1))∧pairs.Nodup
def NE(n:Nat)(g:Gr):Prop:=(∀p∈g.pairs,p.x≠p.y)∧BK n g.pairs g.nums
theorem VX(hb:BK n pairs nums)(h:oZ n pairs nums p=some (k,ps,ns)):BK n ps ns:=by
 unfold oZ at h;split at h
 ·cases h
 ·rename_i h0;cases h;have hl:=(bU h0).1;refine⟨fun q hq=>?_,?_⟩
  ·rw[getElem?_set];by_cases e:placeOf n p=placeOf n q
   ·rw[aP e,aP hl];exact⟨_,rfl⟩
   ·rw[aU e];rcases mem_append.1 hq with h | h
    ·exact hb.1 q h
    ·rw[mem_singleton.1 h]at e;exact absurd rfl e
  ·rw[nodup_append];refine⟨hb.2,by simp,fun a ha b hb' e=>?_⟩;rw[mem_singleton]at hb';subst hb';subst e;obtain⟨u,hu⟩:=hb.1 a ha;rw[h0]at hu;cases hu
 ·cases h;exact hb
theorem OW(h:oZ n pairs nums p=some (k,ps,ns)):∀q∈ps,q∈pairs∨q=p:=by
 unfold oZ at h;split at h
 ·cases h
 ·cases h;intro q hq;rcases mem_append.1 hq with h | h
  ·exact Or.inl h
  ·exact Or.inr (mem_singleton.1 h)
 ·cases h;exact fun q hq=>Or.inl hq
theorem FP{n fr l:Nat}{p:Pair}{sa sb:By × Nat}{x:Nat}{all:List R4}(hp:p.x≠p.y)(hx:∀r,all[x]?=some r->r.get l=some p.x):∀(rs:List R4) (y:Nat) (g g':Gr),rs=all.drop y->NE n g->jy n fr l p sa sb x rs y g=some g'->NE n g'
 | [],y,g,g',_,h,e=>by rw[jy]at e;cases e;exact h
 | r::rs,y,g,g',hr,h,e=>by
  have hy:y<all.length:=by
   have:=congrArg length hr;rw[length_drop]at this;simp at this;omega
  rw[kJ hy]at hr;injection hr with hr1 hr2;rw[jy]at e;split at e
  ·cases e
  ·rename_i k hk;split at e
   ·rename_i hky;split at e
    ·split at e
     ·cases e
     ·rename_i tt ps ns hg;refine FP hp hx rs (y+1) ⟨ps,ns,_⟩ g' hr2 ⟨fun q hq=>?_,VX h.2 hg⟩ e;rcases OW hg q hq with h1 | h1
      ·exact h.1 q h1
      ·subst h1;intro exy;have exy:x=y:=exy;subst exy;have:=hx r (by rw[bG hy,hr1]);rw[hk]at this;injection this with this;exact hp (by rw[<-this,hky])
    ·cases e
   ·exact FP hp hx rs (y+1) g g' hr2 h e
theorem FQ{n fr l:Nat}{p:Pair}{sa sb:By × Nat}{all:List R4}(hp:p.x≠p.y):∀(rs:List R4) (x:Nat) (g g':Gr),rs=all.drop x->NE n g->kR n fr l p sa sb all rs x g=some g'->NE n g'
 | [],x,g,g',_,h,e=>by rw[kR]at e;cases e;exact h
 | r::rs,x,g,g',hr,h,e=>by
  have hy:x<all.length:=by
   have:=congrArg length hr;rw[length_drop]at this;simp at this;omega
  rw[kJ hy]at hr;injection hr with hr1 hr2;rw[kR]at e;split at e
  ·cases e
  ·rename_i k hk;split at e
   ·rename_i hkx;split at e
    ·cases e
    ·rename_i g2 hg2;refine FQ hp rs (x+1) g2 g' hr2 (FP hp (fun r' hr'=>?_) all 0 g g2 rfl h hg2) e;rw[bG hy,<-hr1]at hr';injection hr' with hr';rw[<-hr',hk,hkx]
   ·exact FQ hp rs (x+1) g g' hr2 h e
theorem aBN{fr l:Nat}{g':Gr}(h:NE v.k.ahead.length g)(e:lead v fr l g=some g'):NE v.k.ahead.length g':=by
 unfold lead at e;split at e
 ·cases e
 ·rename_i p hp;split at e
  ·exact FQ (h.1 p (iI hp)) v.k.ahead 0 g g' rfl h e
  ·cases e
theorem OX{v:View}{fr:Nat}:∀(c:Nat) (g g':Gr),NE v.k.ahead.length g->kT v fr c g=some g'->NE v.k.ahead.length g'
 | 0,g,g',h,e=>by rw[kT]at e;cases e;exact h
 | c+1,g,g',h,e=>by
  rw[kT]at e;split at e
  ·cases e
  ·rename_i g2 hg;exact OX c g2 g' (aBN h hg) e
theorem VY{v:View}:∀(f i:Nat) (g:Gr) (first:List Nat) (g2:Gr) (eG:List Nat),NE v.k.ahead.length g->grow v f i g first=some (g2,eG)->NE v.k.ahead.length g2
 | 0,i,g,first,g2,eG,_,e=>by rw[grow]at e;cases e
 | f+1,i,g,first,g2,eG,h,e=>by
  rw[grow]at e;split at e
  ·cases e;exact h
  ·split at e
   ·split at e
    ·cases e
    ·rename_i g3 hg;exact VY f (i+1) g3 _ g2 eG (OX 4 g g3 h hg) e
   ·cases e
theorem OY{n x:Nat}:∀(c y:Nat) (g g':Gr),x<y->NE n g->lH n x c y g=some g'->NE n g'
 | 0,y,g,g',_,h,e=>by rw[lH]at e;cases e;exact h
 | c+1,y,g,g',hy,h,e=>by
  rw[lH]at e;split at e
  ·split at e
   ·cases e
   ·rename_i k ps ns hg;refine OY c (y+1) ⟨ps,ns,g.steps⟩ g' (by omega) ⟨fun q hq=>?_,VX h.2 hg⟩ e;rcases OW hg q hq with h1 | h1
    ·exact h.1 q h1
    ·subst h1;show x≠y;omega
  ·cases e
theorem OZ{n:Nat}:∀(c x:Nat) (g g':Gr),NE n g->kS n c x g=some g'->NE n g'
 | 0,x,g,g',h,e=>by rw[kS]at e;cases e;exact h
 | c+1,x,g,g',h,e=>by
  rw[kS]at e;split at e
  ·cases e
  ·rename_i g2 hg;exact OZ c (x+1) g2 g' (OY _ (x+1) g g2 (by omega) h hg) e
theorem ZX{R:GG}(e:graph v=some R):NE v.k.ahead.length R.g:=by
 unfold graph at e;split at e
 ·cases e
 ·rename_i g hg;split at e
  ·cases e
  ·rename_i g2 first hg2;split at e
   ·split at e
    ·cases e
    ·cases e;exact VY _ 0 g [] g2 first (OZ _ 0 _ g ⟨(fun p hp=>by cases hp),(fun p hp=>by cases hp),nodup_nil⟩ hg) hg2
   ·cases e
theorem zT(v:V):∀(w z:List Nat),kd v w (kind v z)=kind v (w++z)
 | [],_=>rfl
 | l::w,z=>by
  show v.A (kd v w (kind v z)) l=v.A (kind v (w++z)) l;rw[zT v w z]
inductive pz(v:View):List Pair->List Nat->Prop
 | one (p:Pair):pz v [p] []
 | cons {p q:Pair} {ps:List Pair} {l:Nat} {w:List Nat}:Lead v p [l] q->pz v (q::ps) w->pz v (p::q::ps) (l::w)
theorem pz.len(h:pz v ps w):ps.length=w.length+1:=by
 induction h with
 | one=>rfl
 | cons _ _ ih=>rw[length_cons,ih,length_cons]
theorem pz.wd(h:pz v ps w):Wd w:=by
 induction h with
 | one=>exact fun x hx=>by cases hx
 | cons a _ ih=>
  intro x hx;rcases mem_cons.1 hx with rfl | hx
  ·exact a.wd x (by simp)
  ·exact ih x hx
theorem pz.at(h:pz v ps w){e:Pair}(he:ps.getLast?=some e):∀i p,ps[i]?=some p->p.x=kd (aF v) (w.drop i) e.x∧p.y=kd (aF v) (w.drop i) e.y:=by
 induction h with
 | one p=>
  intro i q hq;rcases i with _ | i
  ·simp at hq he;subst hq he;exact⟨rfl,rfl⟩
  ·simp at hq
 | @cons p q ps l w a b ih=>
  have he':(q::ps).getLast?=some e:=by rw[<-he];simp[getLast?_cons_cons]
  intro i r hr;rcases i with _ | i
  ·simp at hr;subst hr;obtain⟨k1,k2⟩:=ih he' 0 q rfl;rw[drop_zero]at k1 k2 ⊢;refine⟨?_,?_⟩
   ·rw[<-a.kx,k1];rfl
   ·rw[<-a.ky,k2];rfl
  ·rw[getElem?_cons_succ]at hr;rw[drop_succ_cons];exact ih he' i r hr
theorem VZ{x:Nat}:∀(w:List Nat),(∀c∈w,c=x)->w=replicate w.length x
 | [],_=>rfl
 | c::w,h=>by
  rw[length_cons,replicate_succ,<-VZ w fun y hy=>h y (mem_cons_of_mem _ hy),h c mem_cons_self]
theorem FT{l:List LR}{rs:List Rule}(h:mZ l rs){v:View}(hv:view rs=some (some v)){x:Nat}(hx:x<4){z:List Nat}(hz:Wd z):∀m,kind (aF v) (replicate (9+m) x++z)=kind (aF v) (replicate 9 x++z)
 | 0=>rfl
 | m+1=>by rw[<-Nat.add_assoc,aBL h hv hx hz (by omega),FT h hv hx hz m]
def code(ps:List Pair)(i:Nat):Nat:=match ps[i+4]? with
 | none=>0
 | some p=>p.s*4+p.t
theorem Wi{l:List LR}(h:mZ l rs)(ho:∀a∈l,a.Ok)(hv:view rs=some (some v))(hw:pz v ps w)(hnd:ps.Nodup)(hne:∀p∈ps,p.x≠p.y)(hpv:∀p∈ps,PV v.k.ahead.length p):ps.length<=29:=by
 apply Classical.byContradiction;intro hbig;have hlen:=hw.len;obtain⟨-,hk,-⟩:=sZ hv;obtain⟨e,he⟩:∃e,ps.getLast?=some e:=by
  cases hx:ps.getLast? with
  | none=>rw[getLast?_eq_none_iff]at hx;rw[hx]at hbig;simp at hbig
  | some e=>exact⟨e,rfl⟩
 have hem:=mem_of_getLast? he;have hat:=hw.at he;obtain⟨z,hz,ez⟩:=hk.has e.x (hpv e hem).1;obtain⟨z',hz',ez'⟩:=hk.has e.y (hpv e hem).2.2.1;have hwd:=hw.wd;have wda:∀{p z:List Nat},Wd p->Wd z->Wd (p++z):=fun hp hz l hl=>by
  rcases mem_append.1 hl with h | h
  ·exact hp l h
  ·exact hz l h
 have h0:ps[0]?=some ps[0]:=bG (by omega);obtain⟨k1,k2⟩:=hat 0 _ h0;rw[drop_zero,<-ez,zT]at k1;rw[drop_zero,<-ez',zT]at k2;have hd:=hne _ (iI h0);rw[k1,k2]at hd;obtain⟨x,hx⟩:=aBM h ho hv (p:=w) (by omega) (wda hwd hz) (wda hwd hz') hd;have hx4:x<4:=by
  have hm:w[4]'(by omega)∈w.drop 4:=mem_drop_iff_getElem.2 ⟨0,by omega,by simp⟩;rw[<-hx _ hm];exact hwd _ (getElem_mem _)
 have hdrop:∀i,4<=i->w.drop i=replicate (w.length-i) x:=fun i hi=>by
  have:=VZ (w.drop i) fun c hc=>hx c (by
   rw[show i=4+(i-4) by omega,<-drop_drop]at hc
   exact mem_of_mem_drop hc)
  rwa [length_drop]at this
 have ZY:∀i p,4<=i->i+9<=w.length->ps[i]?=some p->p.x=kind (aF v) (replicate 9 x++z)∧p.y=kind (aF v) (replicate 9 x++z'):=fun i p h4 h9 hp=>by
  obtain⟨a,b⟩:=hat i p hp;rw[hdrop i h4,<-ez,zT,show w.length-i=9+(w.length-i-9) by omega,FT h hv hx4 hz]at a;rw[hdrop i h4,<-ez',zT,show w.length-i=9+(w.length-i-9) by omega,FT h hv hx4 hz']at b;exact⟨a,b⟩
 have hcode:((range 17).map (code ps)).Nodup:=by
  rw[Nodup,pairwise_map];refine Pairwise.imp_of_mem ?_ (nodup_range (n:=17));intro i j hi hj hij e;rw[mem_range]at hi hj;have pi:ps[i+4]?=some ps[i+4]:=bG (by omega);have pj:ps[j+4]?=some ps[j+4]:=bG (by omega);obtain⟨a1,a2⟩:=ZY (i+4) _ (by omega) (by omega) pi;obtain⟨b1,b2⟩:=ZY (j+4) _ (by omega) (by omega) pj;have vi:=hpv _ (iI pi);have vj:=hpv _ (iI pj);unfold code at e;rw[pi,pj]at e;simp only[]at e;obtain⟨-,s1,-,t1⟩:=vi;obtain⟨-,s2,-,t2⟩:=vj;have es:ps[i+4].s=ps[j+4].s:=by omega
  have et:ps[i+4].t=ps[j+4].t:=by omega
  have ep:ps[i+4]=ps[j+4]:=by
   have ex:=a1.trans b1.symm;have ey:=a2.trans b2.symm
   revert ex ey es et
   generalize ps[i+4]=P;generalize ps[j+4]=Q;intro es et ex ey;obtain⟨px,psx,py,pt⟩:=P;obtain⟨qx,qs,qy,qt⟩:=Q;simp only at es et ex ey;subst es et ex ey;rfl
  have:=(getElem_inj hnd).1 ep;omega
 have:=mX 16 _ hcode fun y hy=>by
  obtain⟨i,hi,rfl⟩:=mem_map.1 hy;rw[mem_range]at hi;have pi:ps[i+4]?=some ps[i+4]:=bG (by omega);obtain⟨-,s1,-,t1⟩:=hpv _ (iI pi);unfold code;rw[pi];simp only[];omega
 simp at this
theorem pz.snoc(h:pz v ps w){q:Pair}{l:Nat}(hp:ps.getLast?=some p)(hl:Lead v p [l] q):pz v (ps++[q]) (w++[l]):=by
 induction h with
 | one a=>
  simp at hp;subst hp;exact pz.cons hl (pz.one q)
 | @cons a b ps k w x y ih=>
  have:=ih (by rw[<-hp];simp[getLast?_cons_cons]);exact pz.cons x this
def PR(pairs:List Pair)(k:Nat):Pair:=pairs.getD k ⟨0,0,0,0⟩
theorem FU(h:pairs[k]?=some p):PR pairs k=p:=by
 unfold PR;rw[fM,h];rfl
theorem aEU(hn:pairs.Nodup)(h:l.Nodup)(hl:∀k∈l,k<pairs.length):(l.map (PR pairs)).Nodup:=by
 rw[Nodup,pairwise_map];refine Pairwise.imp_of_mem ?_ h;intro i j hi hj hij e;rw[FU (bG (hl i hi)),FU (bG (hl j hj))]at e;exact hij ((getElem_inj hn).1 e)
structure LG(v:View)(g:Gr):Prop where
 short:∀(ps:List Pair) (w:List Nat),pz v ps w->ps.Nodup->(∀p∈ps,p.x≠p.y)->(∀p∈ps,PV v.k.ahead.length p)->ps.length<=29
 ne:NE v.k.ahead.length g
 gi:GI v g
theorem O0(h:LG v g)(hw:pz v (l.map (PR g.pairs)) w)(hn:l.Nodup)(hl:∀k∈l,k<g.pairs.length):l.length<=29:=by
 have hm:∀p∈l.map (PR g.pairs),p∈g.pairs:=fun p hp=>by
  obtain⟨k,hk,rfl⟩:=mem_map.1 hp;rw[FU (bG (hl k hk))];exact getElem_mem _
 have:=h.short _ w hw (aEU h.ne.2.2 hn hl) (fun p hp=>h.ne.1 p (hm p hp)) (fun p hp=>h.gi.ni.val p (hm p hp))
 rwa [length_map]at this
theorem aDs(hp:HP v g.pairs found)(h:An found i l):∃w,pz v ((l.map (pn found)).reverse.map (PR g.pairs)) w:=by
 induction h with
 | @start i f a b=>
  exact⟨[],by simpa using pz.one _⟩
 | @step i j f l a b c d ih=>
  obtain⟨w,hw⟩:=ih;obtain⟨q,hq,hc⟩:=hp i f a;rcases hc with ⟨c1,-⟩ | ⟨j',g',p,s,c1,c2,c3,c4,c5,c6,-⟩
  ·omega
  ·have:j=j':=by omega
   subst this;obtain⟨t,rfl⟩:=d.head;refine⟨w++[s.l],?_⟩;rw[map_cons,reverse_cons,map_append];refine hw.snoc (p:=p) ?_ ?_
   ·rw[map_cons,reverse_cons,map_append,xR c3];simp[FU c4]
   ·rw[xR a,FU hq];exact c5.lead
theorem FV(hg:LG v g)(hp:HP v g.pairs found)(h:An found i l)(hn:(l.map (pn found)).Nodup):l.length<=29:=by
 obtain⟨w,hw⟩:=aDs hp h;have:=O0 hg hw (pairwise_reverse.2 (Pairwise.imp (fun h=>Ne.symm h) hn)) fun k hk=>by
  rw[mem_reverse]at hk;obtain⟨j,hj,rfl⟩:=mem_map.1 hk;obtain⟨f,hf⟩:=h.some j hj;obtain⟨q,hq,-⟩:=hp j f hf;rw[xR hf];exact(bU hq).1
 rwa [length_reverse,length_map]at this
theorem zU{v:View}{g:Gr}(hg:LG v g){on:List Int}{np:Nat}(hnp:np=g.pairs.length)(ho:YV g.steps np on on):∀(n:Nat) (met:List Nat) (w:By) (fr:Nat) (a b:By) (en:Nat),met.Nodup->(∀x∈met,x<np)->fr<np->met.length<=29->w.length=met.length->pz v ((met++[fr]).map (PR g.pairs)) (ak w)->bY on g.steps n met w fr=some (a,b,en)->a.length+b.length<=29
 | 0,met,w,fr,a,b,en,_,_,_,_,_,_,e=>by rw[bY]at e;cases e
 | n+1,met,w,fr,a,b,en,h1,h2,hf,h3,h4,h5,e=>by
  rw[bY,VD (by rw[ho.len];exact hf)]at e;simp only[]at e;split at e
  ·cases e;simp;omega
  ·rename_i hneg;rcases hi:idx fr met 0 with _ | i
   ·rw[hi]at e;simp only[]at e;obtain⟨far,f1,f2⟩:=ho.rank;obtain⟨s,c1,c2,c3⟩:=f2 fr ((f1 fr).1 (by omega));rw[c1]at e;simp only[]at e;split at e
    ·rename_i hl;have hnd:=yE h1 (Ee fr met 0 hi);have hlt:∀x∈met++[fr],x<np:=fun x hx=>by
      rcases mem_append.1 hx with h | h
      ·exact h2 x h
      ·rw[mem_singleton.1 h];exact hf
     have hlen:=O0 hg h5 hnd (by rw[<-hnp];exact hlt);obtain⟨p,q,p1,p2,p3⟩:=hg.gi.st s (iI c1);rw[c2]at p1;refine zU hg hnp ho n (met++[fr]) (w++aT s.l) s.tt a b en hnd hlt (by rw[hnp];exact(bU p2).1) hlen (by rw[length_append,length_append,o6 hl.1,h4];rfl) ?_ e;rw[gQ,jZ hl.1,map_append];refine h5.snoc (p:=p) ?_ ?_
     ·rw[map_append];simp[FU p1]
     ·show Lead v p [s.l] (PR g.pairs s.tt);rw[FU p2];exact p3.lead
    ·cases e
   ·rw[hi]at e;simp only[]at e;cases e;rw[length_take,length_drop];omega
theorem Z4{one other:aA}{c:Nat}{b:Bool}(h:ahead' one other=some (c,b)){T E O:Nat}(h1:one.tt.length<=T)(h2:other.tt.length<=T)(h3:one.re.length<=E)(h4:other.re.length<=E)(h5:one.ro.length<=O):c<=T+O+1∨c<=T+E:=by
 unfold ahead' at h;split at h
 ·simp only[]at h;split at h
  ·cases h;omega
  ·injection h with h;have:=Ef _ 0 h;omega
 ·split at h
  ·have:=wO h;omega
  ·have:=wO h;omega
structure Small(w:pY):Prop where
 c:w.c<=400
 x:w.x.length<=60
 y:w.y.length<=30
 z1:w.z1.length<=23
 z2:w.z2.length<=23
theorem CQ(hv:VF v)(hk:KW v){x y:By}{at':Nat}(hp:pairs[at']?=some p)(hpv:PV v.k.ahead.length p)(hx:x.length<=57)(hy:y.length<=29){w:pY}(h:weigh v pairs x y at'=some (some w)):Small w:=by
 obtain⟨re1,e1,l1⟩:=sW hv hk (x:=x) (y:=y) (by omega) (by omega) hpv.1;obtain⟨re2,e2,l2⟩:=sW hv hk (x:=x) (y:=y) (by omega) (by omega) hpv.2.2.1;have t1:=gY hv p.x (ak x) 0;have t2:=gY hv p.y (ak x) 0;have t3:=gY hv p.x (ak y) (dJ (aF v) p.x 0 (ak x)).2;rw[mP]at t1 t2 t3;unfold weigh at h;rw[hp]at h;simp only[]at h;rw[e1,e2]at h;simp only[]at h;split at h
 ·rcases ha:ahead' (dV v x y p.x re1) (dV v x y p.y re2)with _ | ⟨c,b⟩
  ·rw[ha]at h;cases h
  ·rw[ha]at h;have hc:=Z4 ha (T:=228) (E:=96) (O:=116) (by show (dJ (aF v) p.x 0 (ak x)).1.length<=_;omega) (by show (dJ (aF v) p.y 0 (ak x)).1.length<=_;omega) l1 l2 (by show (dJ (aF v) p.x _ (ak y)).1.length<=_;omega);rcases b with _ | _
   ·simp only[]at h;cases h
   ·simp only[]at h;have w1:p.x<v.k.words.length:=by rw[hk.len];exact hpv.1
    have w2:p.y<v.k.words.length:=by rw[hk.len];exact hpv.2.2.1
    rw[bG w1,bG w2]at h;simp only[]at h;have q1:=(hk.word _ _ (bG w1)).2.2;have q2:=(hk.word _ _ (bG w2)).2.2;have WR:=hv.le;have v1:=hpv.1;have v2:=hpv.2.2.1;rw[show (1000000:Nat)=999999+1 from rfl,settle,aU (by show ¬400<c;omega)]at h;simp only[]at h;cases h;exact⟨by show c<=400;omega,by show x.length<=60;omega,by show y.length<=30;omega,by show (v.k.words[p.x]).length<=23;omega,by show (v.k.words[p.y]).length<=23;omega⟩
 ·cases h
section
variable {v:View} {R:GG}
theorem Wj(hv:VF v)(hk:KW v)(hg:LG v R.g)(hp:HP v R.g.pairs found)(hl4:∀f∈found,f.l<4)(h:An found i (i::l))(hlen:l.length<=29)(hf:found[i]?=some f)(hkl:k∈l){lk:List Nat}(hak:An found k lk)(hlk:lk.length<=29){w:pY}(e:exA v R found i f.pair k=some (some w)):Small w:=by
 obtain⟨tt,a1,a2,-⟩:=o7 hl4 hak 100000 [] (by omega) (by simp;omega);obtain⟨rd,b1,b2,-⟩:=JG hl4 h (k:=k) 100000 [] (mem_cons_of_mem _ hkl) (by simp;omega) (by simp;omega);rw[append_nil]at a1 b1;rw[length_cons]at b2;unfold exA at e;rw[a1,b1]at e;simp only[]at e;obtain⟨q,hq,-⟩:=hp i f hf;exact CQ hv hk hq (hg.gi.ni.val q (iI hq)) (by omega) (by omega) e
theorem JO(hv:VF v)(hk:KW v)(hg:LG v R.g)(hx:GX v R)(hp:HP v R.g.pairs found)(hl4:∀f∈found,f.l<4)(h:An found i l)(hlen:l.length<=29)(hf:found[i]?=some f){w:pY}(e:exB v R found i f.pair=some (some w)):Small w:=by
 obtain⟨tt,a1,a2,-⟩:=o7 hl4 h 100000 [] (by omega) (by simp;omega);rw[append_nil]at a1;obtain⟨q,hq,-⟩:=hp i f hf;unfold exB at e;rw[a1]at e;rcases hc:bY R.on R.g.steps 100000 [] [] f.pair with _ | ⟨a,b,en⟩
 ·rw[hc]at e;cases e
 ·rw[hc]at e;simp only[]at e;have hab:=zU hg rfl hx.on 100000 [] [] f.pair a b en (by simp) (fun x hx=>by cases hx) (bU hq).1 (by simp) rfl (by simpa [ak] using pz.one _) hc;split at e
  ·rcases hen:R.g.pairs[en]? with _ | p
   ·unfold weigh at e;rw[hen]at e;cases e
   ·exact CQ hv hk hen (hg.gi.ni.val p (iI hen)) (by rw[length_append];omega) (by omega) e
  ·cases e
theorem O3(hv:VF v)(hk:KW v)(hg:LG v R.g)(hx:GX v R){last:List Nat}(h:GJ v R i found last)(hf:found[i]?=some f){w:pY}(e:judge v R found i=some (some w)):Small w:=by
 unfold judge at e;rw[hf]at e;simp only[]at e;obtain⟨q0,hq0,hc⟩:=h.fk.hp i f hf;rcases hc with ⟨c1,-⟩ | ⟨j,g,p,s,c1,c2,c3,-⟩
 ·have ha:=An.start hf c1;rw[c1,Aj (by omega)]at e;exact JO hv hk hg hx h.fk.hp h.fk.l4 ha (by simp) hf e
 ·obtain⟨g',l,a,b,en,p',q',d1,d2,d3,d4⟩:=h.dn j c2;have hl:=FV hg h.fk.hp d2 d3;have ha:=An.step hf c1 c2 d2;rw[c1]at e;rcases Eg (v:=v) (R:=R) (i:=i) (here:=f.pair) d2 100000 (by omega)with ⟨k,fk,k1,k2,k3,k4⟩ | ⟨k1,k2⟩
  ·rw[k4]at e;have hkj:=d2.le k k1;obtain⟨fk',lk,_,_,_,_,_,m1,m2,m3,-⟩:=h.dn k (by omega);exact Wj hv hk hg h.fk.hp h.fk.l4 ha hl hf k1 m2 (FV hg h.fk.hp m2 m3) e
  ·rw[k2]at e;have hn:((i::l).map (pn found)).Nodup:=by
    rw[map_cons,nodup_cons];refine⟨fun hm=>?_,d3⟩;obtain⟨k,hk1,hk2⟩:=mem_map.1 hm;obtain⟨fk,hfk⟩:=d2.some k hk1;rw[xR hfk,xR hf]at hk2;exact k1 k fk hk1 hfk hk2
   exact JO hv hk hg hx h.fk.hp h.fk.l4 ha (FV hg h.fk.hp ha hn) hf e
theorem zV(hv:VF v)(hk:KW v)(hg:LG v R.g)(hx:GX v R){w:pY}:∀(n i:Nat) (found:List fH) (last:List Nat),GJ v R i found last->iU v R n i found last=some (some w)->Small w
 | 0,i,found,last,_,e=>by rw[iU]at e;cases e
 | n+1,i,found,last,h,e=>by
  have hle:=Yz hv hx h;rw[iU]at e;split at e
  ·rename_i hi;obtain⟨r,l,e1,e2,e3,e4⟩:=Bv hv hk hx h (bG hi);rw[e1]at e;rcases r with _ | w'
   ·simp only[]at e;obtain⟨e5,e6⟩:=e4 rfl;have hsz:=h.sz;have hfk:FK v R found last ((i:Int)+1):=⟨h.fk.hp,h.fk.l4,h.fk.fi,fun f hf=>by have:=h.fk.fr f hf;omega⟩;obtain⟨f2,l2,d1,d2,more,d3,d4⟩:=Eh hx hv (Ei hv h.fk e2 e3 (bG hi)) (bG hi) hfk (by omega);rw[d1]at e;subst d3;exact zV hv hk hg hx n (i+1) _ l2 (VH h d2 d4 (bG hi) e2 e5 e6) e
   ·simp only[]at e;cases e;exact O3 hv hk hg hx h (bG hi) e1
  ·cases e
end
theorem Rq{l:List LR}(h:mZ l rs)(ho:∀a∈l,a.Ok)(hv:view rs=some (some v)){w:pY}(e:find v=some (some w)):Small w:=by
 obtain⟨hvf,hk,-⟩:=sZ hv;obtain⟨R,hR,hx⟩:=Bj hvf;have hnp:=hx.np;have hst:=hx.st;have hg:LG v R.g:=⟨fun ps w a b c d=>Wi h ho hv a b c d,ZX hR,hx.ok.gi⟩;unfold find at e;rw[hR]at e;simp only[]at e;rw[aP ⟨by omega,by omega⟩]at e;have h0:FK v R [] (replicate R.g.pairs.length 0) 0:=by
  refine⟨(fun i f hf=>by simp at hf),(fun f hf=>by cases hf),⟨length_replicate,(fun k _=>⟨[],Ch.nil (by rw[yD];omega),(fun n f hf=>by simp at hf)⟩),(fun k=>by rw[yD];omega),(fun f hf=>by cases hf),(fun n n' f f' hf=>by simp at hf)⟩,(fun f hf=>by cases hf)⟩
 obtain⟨f2,l2,e1,e2,e3⟩:=qZ hx R.st 0 [] _ (by omega) h0 (by simp;omega);rw[e1]at e;simp only[]at e;refine zV hvf hk hg hx _ 0 f2 l2 ⟨e2,fun k hk=>by omega,?_⟩ e;simp at e3;omega
end Th
end Go.Proofs.YtoebidlghdidoaaGreatDoor
