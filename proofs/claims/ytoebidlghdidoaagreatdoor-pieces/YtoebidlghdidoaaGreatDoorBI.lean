import Derived.Test.YtoebidlghdidoaaGreatDoorBG
set_option maxHeartbeats 8000000
set_option maxRecDepth 100000
namespace Go.Proofs.YtoebidlghdidoaaGreatDoor
open Tx Th M2 Tryz List
namespace Th
open aI (lG num)
open M2 (View iL aT)
variable {w:By} {l t:Nat} {mt:List Bool}
theorem aIN(h:Wb w)(hl:l<4):Wb (w++aT l):=fun c hc=>by
 rcases mem_append.1 hc with h1 | h1
 ·exact h c h1
 ·exact kU hl c h1
def Dn(aC:List iL)(c:UInt8)(mt:List Bool)(t j:Nat):Prop:=(I4 aC t).en.head?=some c∧∀l,l<j->((I4 aC t).sd.getD l []).head?=some c∨((I4 aC t).sd.getD l []=[]∧mt[(I4 aC t).nx.getD l 0]?=some true)
structure UI(aC:List iL)(fr:Nat)(c:UInt8)(ws:List (By × Nat))(mt:List Bool)(i:Nat):Prop where
 w0:ws[0]?=some ([],fr)
 wok:∀(k:Nat) (w:By) (t:Nat),ws[k]?=some (w,t)->Wb w∧w.length<=k∧t<aC.length∧mt[t]?=some true∧∀z,Wd z->kC aC fr (ak w++z)=kC aC t z
 ml:mt.length=aC.length
 mw:∀t:Nat,mt[t]?=some true->∃(k:Nat) (w:By),ws[k]?=some (w,t)
 cnt:ws.length=mt.count true
 dn:∀(k:Nat) (w:By) (t:Nat),k<i->ws[k]?=some (w,t)->Dn aC c mt t 4
theorem aJe(h:mt[t]?=some false):(mt.set t true).count true=mt.count true+1:=by
 induction mt generalizing t with
 | nil=>cases h
 | cons b bs ih=>
  cases t with
  | zero=>simp at h;subst h;simp
  | succ t=>simp at h;rw[set_cons_succ,List.count_cons,List.count_cons,ih h];omega
theorem aJf{k:Nat}(h:mt[k]?=some true):(mt.set t true)[k]?=some true:=by
 have hk:=(bU h).1;rw[getElem?_set];split
 ·rename_i e;subst e;simp[hk]
 ·exact h
theorem Dn.up{aC:List iL}{c:UInt8}{j:Nat}(h:Dn aC c mt t j)(u:Nat):Dn aC c (mt.set u true) t j:=⟨h.1,fun l hl=>(h.2 l hl).imp id fun x=>⟨x.1,aJf x.2⟩⟩
section
variable {v:View} {aC:List iL} {fr:Nat} {c:UInt8} {ws:List (By × Nat)} {mt:List Bool} {i:Nat}
theorem UI.start(hfr:fr<aC.length):UI aC fr c [([],fr)] ((replicate aC.length false).set fr true) 0:=by
 have hs:(replicate aC.length false)[fr]?=some false:=by rw[getElem?_replicate,aP hfr]
 have hf:((replicate aC.length false).set fr true)[fr]?=some true:=by rw[getElem?_set];simp[hfr]
 refine⟨rfl,fun k w t h=>?_,by simp,fun t h=>?_,?_,fun k w t h=>by omega⟩
 ·match k,h with
  | 0,h=>simp at h;obtain⟨rfl,rfl⟩:=h;exact⟨fun _ hc=>(by cases hc),by simp,hfr,hf,fun z _=>rfl⟩
  | k+1,h=>simp at h
 ·by_cases e:fr=t
  ·subst e;exact⟨0,[],rfl⟩
  ·rw[List.getElem?_set_ne e,getElem?_replicate]at h;split at h <;> simp at h
 ·rw[aJe hs];simp[List.count_replicate]
theorem UI.le(h:UI aC fr c ws mt i):ws.length<=aC.length:=by
 rw[h.cnt,<-h.ml];exact List.count_le_length
theorem UI.end_(h:UI aC fr c ws mt i)(hw:ws[i]?=some (w,t))(he:(I4 aC t).en.head?≠some c):Wb w∧w.length<=aC.length∧(kC aC fr (ak w)).head?≠some c:=by
 obtain⟨h1,h2,h3,-,h5⟩:=h.wok i w t hw;have hi:=(bU hw).1;have:=h.le;have e:=h5 [] (fun _ hx=>by cases hx);rw[append_nil]at e;exact⟨h1,by omega,by rw[e,vN];exact he⟩
theorem UI.said(h:UI aC fr c ws mt i)(hw:ws[i]?=some (w,t))(hl:l<4)(h0:(I4 aC t).sd.getD l []≠[])(he:((I4 aC t).sd.getD l []).head?≠some c):Wb (w++aT l)∧(w++aT l).length<=aC.length∧(kC aC fr (ak (w++aT l))).head?≠some c:=by
 obtain⟨h1,h2,h3,-,h5⟩:=h.wok i w t hw;have hi:=(bU hw).1;have:=h.le;have e:=h5 [l] (fun x hx=>by rw[mem_singleton.1 hx];exact hl);refine⟨aIN h1 hl,by rw[length_append];show w.length+1<=_;omega,?_⟩;rw[gQ,jZ hl,e,rG];cases hs:(I4 aC t).sd.getD l []with
 | nil=>exact absurd hs h0
 | cons a aa=>rw[hs]at he;simpa using he
theorem UI.push(hm:MFx v aC)(h:UI aC fr c ws mt i)(hw:ws[i]?=some (w,t))(hl:l<4)(h0:(I4 aC t).sd.getD l []=[])(hf:mt[(I4 aC t).nx.getD l 0]?=some false):UI aC fr c (ws++[(w++aT l,(I4 aC t).nx.getD l 0)]) (mt.set ((I4 aC t).nx.getD l 0) true) i:=by
 obtain⟨h1,h2,h3,h4,h5⟩:=h.wok i w t hw;have hi:=(bU hw).1;have hp:0<ws.length:=(bU h.w0).1;have hn:=hm.inn t _ l (by rw[bG h3]) hl;rw[<-oz (bG h3)]at hn;refine⟨by rw[jG hp];exact h.w0,fun k w' t' hk=>?_,by rw[length_set];exact h.ml,fun u hu=>?_,by rw[length_append,aJe hf,h.cnt];rfl,fun k w' t' hk hw'=>?_⟩
 ·by_cases hkl:k<ws.length
  ·rw[jG hkl]at hk;obtain⟨g1,g2,g3,g4,g5⟩:=h.wok k w' t' hk;exact⟨g1,g2,g3,aJf g4,g5⟩
  ·rw[mW (by omega)]at hk;have e0:k-ws.length=0:=by
    have:=(bU hk).1;simp at this;omega
   rw[e0]at hk;obtain⟨rfl,rfl⟩:=Prod.mk.inj (dY hk);refine⟨aIN h1 hl,by rw[length_append];show w.length+1<=_;omega,hn,getElem?_set_self (by rw[h.ml];exact hn),fun z hz=>?_⟩;have hz':Wd (l::z):=fun x hx=>by
    rcases mem_cons.1 hx with a | a
    ·rw[a];exact hl
    ·exact hz x a
   rw[gQ,jZ hl,append_assoc,List.singleton_append,h5 (l::z) hz',rG,h0,nil_append]
 ·by_cases e:(I4 aC t).nx.getD l 0=u
  ·subst e;exact⟨ws.length,w++aT l,by rw[mW (dH _),Nat.sub_self];rfl⟩
  ·rw[List.getElem?_set_ne e]at hu;obtain⟨k,w',hk⟩:=h.mw u hu;exact⟨k,w',by rw[jG (bU hk).1];exact hk⟩
 ·rw[jG (by omega)]at hw';exact(h.dn k w' t' hk hw').up _
theorem UI.next(h:UI aC fr c ws mt i)(hw:ws[i]?=some (w,t))(hd:Dn aC c mt t 4):UI aC fr c ws mt (i+1):=by
 refine⟨h.w0,h.wok,h.ml,h.mw,h.cnt,fun k w' t' hk hw'=>?_⟩;by_cases e:k=i
 ·subst e;rw[hw]at hw';cases hw';exact hd
 ·exact h.dn k w' t' (by omega) hw'
theorem UI.fin(hm:MFx v aC)(hfr:fr<aC.length)(h:UI aC fr c ws mt i)(hi:ws.length<=i):False:=by
 have hall:∀(z:List Nat) (k:Nat) (w:By) (t:Nat),Wd z->ws[k]?=some (w,t)->(kC aC t z).head?=some c:=by
  intro z
  induction z with
  | nil=>exact fun k w t _ hk=>(h.dn k w t (by have:=(bU hk).1;omega) hk).1
  | cons l z ih=>
   intro k w t hz hk;have hl:=hz l mem_cons_self;rw[rG];rcases(h.dn k w t (by have:=(bU hk).1;omega) hk).2 l hl with a | ⟨a,b⟩
   ·cases hs:(I4 aC t).sd.getD l []with
    | nil=>rw[hs]at a;cases a
    | cons x xs=>rw[hs]at a;simpa using a
   ·rw[a,nil_append];obtain⟨k',w',hk'⟩:=h.mw _ b;exact ih k' w' _ (fun x hx=>hz x (mem_cons_of_mem _ hx)) hk'
 have:=hm.bare fr hfr [c] fun z hz=>by
  have:=hall z 0 [] fr hz h.w0
  cases hs:kC aC fr z with
  | nil=>rw[hs]at this;cases this
  | cons x xs=>rw[hs]at this;simp at this;subst this;exact⟨xs,rfl⟩
 cases this
end
end Th
section
open Go.RowKit
attribute [local go_sem ↓] Go.wp_at_zero Go.wp_at_succ
theorem Kt{s:ByteArray}(h:0<s.size):s.data.toList.head?=some s[0]:=by
 rw[head?_eq_getElem?];exact tZ h
theorem aI3(s:ByteArray)(c:UInt8)(w:World):J1 111 #[.string s,.int .u8 c.toNat] w fun e w'=>e=.returned (.bool (decide (s.data.toList.head?=some c)))∧w'=w:=by
 by_cases h0:0<s.size
 ·have hs:s.toList.isEmpty=false:=by rw[fG];exact lT (by omega)
  have hi:(0:Int)<(s.size:Int):=by omega
  have hd:decide (0<s.size)=true:=decide_eq_true h0;rw[Kt h0];by_cases hc:s[0]=c
  ·have e:decide (some s[0]=some c)=true:=decide_eq_true (by rw[hc]);rw[e];have hne:((s[0].toNat:Int)==(c.toNat:Int))=true:=by rw[hc];simp
   clear e hc;go_enter func111,ntmps111;go_wp2;go_ret;exact⟨rfl,rfl⟩
  ·have e:decide (some s[0]=some c)=false:=lT (fun h=>hc (dY h));rw[e];have hne:((s[0].toNat:Int)==(c.toNat:Int))=false:=by
    rw[beq_eq_false_iff_ne];intro h;exact hc (UInt8.toNat_inj.1 (by omega))
   clear e hc;go_enter func111,ntmps111;go_wp2;go_ret;exact⟨rfl,rfl⟩
 ·have hs:s.toList.isEmpty=true:=by rw[fG];exact decide_eq_true (by omega)
  have e:decide (s.data.toList.head?=some c)=false:=by
   rw[head?_eq_getElem?,Dj (by omega)];rfl
  rw[e];go_enter func111,ntmps111;go_wp2;go_ret;exact⟨rfl,rfl⟩
def aIA:Code->Option Code
 | .loop c=>some c
 | .seq a b=>match aIA a with
  | some c=>some c
  | none=>aIA b
 | .block _ c=>aIA c
 | .scope c=>aIA c
 | .cond _ a b=>match aIA a with
  | some c=>some c
  | none=>aIA b
 | _=>none
theorem Calls.fact{P:Program}{f:FuncId}{args:Array Value}{w:World}{R:Ending->World->Prop}(h:Calls P f args w R):∃e w',R e w':=let ⟨e,w',_,r,_⟩:=h []
 ⟨e,w',r⟩
end
namespace Th
open M2 (iL)
variable {aC:List iL} {c:UInt8} {f i t:Nat} {ws:List (By × Nat)} {mt:List Bool} {wi:By} {q:iL}
def Un(aC:List iL)(fr:Nat)(c:UInt8)(z:By):Prop:=Wb z∧z.length<=aC.length∧(kC aC fr (ak z)).head?≠some c
def unL(q:iL)(c:UInt8)(wi:By):Nat->Nat->List (By × Nat)->List Bool->By ⊕ (List (By × Nat) × List Bool)
 | 0,_,ws,mt=>.inr (ws,mt)
 | f+1,l,ws,mt=>if q.sd.getD l []=[] then (if mt[q.nx.getD l 0]?=some false then unL q c wi f (l+1) (ws++[(wi++M2.aT l,q.nx.getD l 0)]) (mt.set (q.nx.getD l 0) true) else unL q c wi f (l+1) ws mt)
  else if (q.sd.getD l []).head?=some c then unL q c wi f (l+1) ws mt else .inl (wi++M2.aT l)
def aJh(aC:List iL)(c:UInt8):Nat->Nat->List (By × Nat)->List Bool->By
 | 0,_,_,_=>[]
 | f+1,i,ws,mt=>if (I4 aC (ws.getD i ([],0)).2).en.head?=some c then
   match unL (I4 aC (ws.getD i ([],0)).2) c (ws.getD i ([],0)).1 4 0 ws mt with
   | .inl r=>r
   | .inr p=>aJh aC c f (i+1) p.1 p.2
  else (ws.getD i ([],0)).1
def unR(aC:List iL)(c:UInt8)(f i:Nat)(x:By ⊕ (List (By × Nat) × List Bool)):By:=match x with
 | .inl r=>r
 | .inr p=>aJh aC c f (i+1) p.1 p.2
def unM(aC:List iL)(fr:Nat)(c:UInt8):By:=aJh aC c 201 0 [([],fr)] ((replicate aC.length false).set fr true)
theorem aJ5(hw:ws[i]?=some (wi,t))(hq:I4 aC t=q)(he:q.en.head?=some c):aJh aC c (f+1) i ws mt=unR aC c f i (unL q c wi 4 0 ws mt):=by
 have e:ws.getD i ([],0)=(wi,t):=by rw[fM,hw];rfl
 rw[aJh,e,aP (by show (I4 aC t).en.head?=_;rw[hq];exact he)];show _=unR aC c f i (unL q c wi 4 0 ws mt);rw[<-hq];rfl
theorem aKb(hw:ws[i]?=some (wi,t))(hq:I4 aC t=q)(he:¬q.en.head?=some c):aJh aC c (f+1) i ws mt=wi:=by
 have e:ws.getD i ([],0)=(wi,t):=by rw[fM,hw];rfl
 rw[aJh,e,aU (by show ¬(I4 aC t).en.head?=_;rw[hq];exact he)]
end Th
section
open Go.RowKit
attribute [local go_sem ↓] Go.wp_at_zero Go.wp_at_succ
variable {w w':World} {q:iL} {b l M:Nat} {ps:List (Th.LR × Value)} {aC:List iL} {cs:List Value}
def WyE:Enc (List UInt8 × Nat):=⟨234,2,fun p=>[.string ⟨p.1.toArray⟩,I p.2],fun _=>rfl⟩
theorem aJV:(prog.info? 234).map (fun i=>(i.zero,i.size,i.bytes))=some (some (.agg #[.string ⟨#[]⟩,I 0]),2,24):=by kernel_rfl
theorem aJa(n k:Nat):((Array.replicate n (Value.bool false)).setIfInBounds k (.bool true))=(((replicate n false).set k true).flatMap lD.f).toArray:=by
 have e:∀l:List Bool,l.flatMap lD.f=l.map Value.bool:=fun l=>by
  induction l with
  | nil=>rfl
  | cons a l ih=>rw[flatMap_cons,ih];rfl
 rw[e,map_set,map_replicate];apply Array.ext';simp
structure UW(w:World)(S n:Nat)(mt:List Bool)(u:Value)(ws:List (List UInt8 × Nat))(wr:World):Prop where
 mt:Row lD wr (Jn S n n) mt
 ws:Row WyE wr u ws
 ne:∀q,u.ownBlock=some q->S<q
 md:Mod No w wr
theorem UW.no{S n:Nat}{mt:List Bool}{u:Value}{ws:List (List UInt8 × Nat)}{wr wr':World}(h:UW w S n mt u ws wr)(hm:Mod No wr wr'):UW w S n mt u ws wr':=⟨h.mt.no hm,h.ws.no hm,h.ne,h.md.no hm⟩
theorem aI4(w:World)(vs:Value)(aC:List iL)(fr:Nat)(c:UInt8)(vv:M2.View)(hm:MFx vv aC)(hrow:Row BO w vs aC)(hfr:fr<aC.length):J1 75 #[vs,I fr,.int .u8 c.toNat] w fun e w'=>e=.returned (.string ⟨(unM aC fr c).toArray⟩)∧Un aC fr c (unM aC fr c)∧Mod No w w':=by
 obtain⟨i0,af,hz0,hz1,hz2⟩:=info_parts aJV;obtain⟨g,cap,rfl,hg,hcap⟩:=hrow.form (by omega);have hl:=hm.le;have HU:=qH (UI.start (aC:=aC) (c:=c) hfr);obtain⟨r,hr⟩:=eX (unM aC fr c);rw[<-hr];have HR0:Hd (aJh aC c 201 0 [([],fr)] ((replicate aC.length false).set fr true)=r):=hr.symm;clear hr;obtain⟨n,hn⟩:=eX (aC.length);have HN:=qH hn;rw[<-hn]at hl hfr hcap hrow HU HR0 ⊢;have HST:=qH hrow;have HF:=qH hm;have hmk:=S9 n (by omega);have hfi:(fr:Int)<n:=by omega
 have HW0:Hd (UW w w.heap.size n ((replicate n false).set fr true) (.slice (some ⟨w.heap.size+1,0,none⟩) 1 1) [([],fr)] ((w.alloc (.cells ((Array.replicate n (Value.bool false)).setIfInBounds fr (.bool true)) 4)).alloc (.cells #[.string ⟨#[]⟩,I fr] 234))):=by
  have h1:Row lD (w.alloc (.cells ((Array.replicate n (Value.bool false)).setIfInBounds fr (.bool true)) 4)) (Jn w.heap.size n n) ((replicate n false).set fr true):=by
   have:=Row.of_block (E:=lD) (xs:=(replicate n false).set fr true) (b:=w.heap.size) (w:=w.alloc (.cells ((Array.replicate n (Value.bool false)).setIfInBounds fr (.bool true)) 4)) (by rw[aJa];exact heap_alloc_new w _) (by simp;unfold maxLen;omega);simpa using this
  refine⟨h1.alloc _,?_,fun q hq=>by cases hq;exact Nat.lt_succ_self _,((Mod.refl _ _).alloc _).alloc _⟩;have h2:Row WyE ((w.alloc (.cells ((Array.replicate n (Value.bool false)).setIfInBounds fr (.bool true)) 4)).alloc (.cells #[.string ⟨#[]⟩,I fr] 234)) (.slice (some ⟨(w.alloc (.cells ((Array.replicate n (Value.bool false)).setIfInBounds fr (.bool true)) 4)).heap.size,0,none⟩) 1 1) [([],fr)]:=Row.of_block (E:=WyE) (xs:=[([],fr)]) (heap_alloc_new _ _) (by show 1<=_;unfold maxLen;decide);rw[show (w.alloc (.cells ((Array.replicate n (Value.bool false)).setIfInBounds fr (.bool true)) 4)).heap.size=w.heap.size+1 by simp]at h2;exact h2
 clear hn hrow hm;go_enter func75,ntmps75;go_wp2_with fail;generalize (w.alloc (.cells ((Array.replicate n (Value.bool false)).setIfInBounds fr (.bool true)) 4)).alloc (.cells #[.string ⟨#[]⟩,I fr] 234)=W1 at HW0 ⊢;generalize hS:w.heap.size=S at HW0 ⊢;have HS:=qH hS;clear hmk hS;go_loopg [8,9] 201 (fun gh u8 u9 wr=>∃(i:Nat) (ws:List (List UInt8 × Nat)) (mt:List Bool),u9=I i∧i<=ws.length∧gh=201-i∧aJh aC c gh i ws mt=r∧UI aC fr c ws mt i∧UW w S n mt u8 ws wr)
 case atStart=>exact⟨0,_,_,rfl,by simp,rfl,HR0.o,HU.o,HW0.o⟩
 case round=>
  clear HU HW0 HR0;obtain⟨i,ws,mt,rfl,hik,hgk,hgo,hU,hW⟩:=hrel;have hwl:=hU.le;rw[<-HN.o]at hwl;obtain⟨k,hk⟩:=eX (ws.length);have HK:=qH hk;obtain⟨pa,pc,ev,-,-⟩:=hW.ws.open hk.symm;rw[<-hk]at hwl hik;by_cases hlt:i<k
  ·obtain⟨⟨wi,t⟩,hwi⟩:∃p,ws[i]?=some p:=⟨ws[i]'(by omega),bG _⟩;have hti:=(hU.wok i wi t hwi).2.2.1;obtain⟨q,hq⟩:∃q,aC[t]?=some q:=⟨aC[t]'hti,bG _⟩;have hqm:=oz hq;obtain⟨f,rfl⟩:∃f,gk=f+1:=⟨201-(i+1),by omega⟩;have Jg:=qH hgo;clear hgo;have hmd:=hW.md;have hs:=HST.o.no hmd;obtain⟨S0,S1,S2,S3,S4,N0,N1,N2,N3,hSN,a0,a1,a2,a3,a4,a5,a6,a7,a8⟩:=aAS hs t q hq;obtain⟨gw,hgw⟩:∃gw,pa=some (J gw 0):=by
    obtain⟨g2,c2,h2,-⟩:=hW.ws.form (by omega);rw[ev]at h2;injection h2 with h2 _;exact⟨g2,h2⟩
   subst hgw;have hws:=hW.ws;rw[ev]at hws;have b1:wr.cell? (J gw (i*2+1))=some (I t):=hws.cell i 1 hwi rfl;have aHL:(i:Int)<k:=by omega
   have htn:(t:Int)<n:=by have:=HN.o;omega
   have aJr:=aI3 S0 c;have HSN:=qH hSN;have HW:=qH hW;have HU:=qH hU;have HQ:=qH (And.intro hwi (And.intro hq hqm));have HEV:=qH ev;clear hW hU hs hmd hws hSN hwi hq hqm hk hti;rw[ev];clear ev;go_wp2_with fail;refine(aJr _).mono ?_;rintro e w1 ⟨rfl,rfl⟩;have HE:Hd (S0.data.toList=q.en):=qH <| by rw[HSN.o.1]
   rw[HE.o];have HWa:Hd (UW w S n mt (Jn gw k pc) ws (wr.alloc (.cells #[.string S0,.string S1,.string S2,.string S3,.string S4,I N0,I N1,I N2,I N3] 104))∧aG (wr.alloc (.cells #[.string S0,.string S1,.string S2,.string S3,.string S4,I N0,I N1,I N2,I N3] 104)) wr.heap.size [.string S0,.string S1,.string S2,.string S3,.string S4,I N0,I N1,I N2,I N3] 104):=⟨by have:=HW.o.no ((Mod.refl _ _).alloc (.cells #[.string S0,.string S1,.string S2,.string S3,.string S4,I N0,I N1,I N2,I N3] 104));rw[HEV.o]at this;exact this,heap_alloc_new wr _⟩;have hSQ:S<wr.heap.size:=by
    obtain⟨g2,c2,h2,h3,-⟩:=HW.o.mt.form (by rw[HU.o.ml,<-HN.o];omega);injection h2 with h2 _;cases h2;exact h3
   have aKn:gw<wr.heap.size:=by
    have h1:=HW.o.ws;rw[HEV.o]at h1;obtain⟨g2,c2,h2,h3,-⟩:=h1.form (by rw[<-HK.o];omega);injection h2 with h2 _;cases h2;exact h3
   generalize wr.alloc (.cells #[.string S0,.string S1,.string S2,.string S3,.string S4,I N0,I N1,I N2,I N3] 104)=wa at HWa ⊢;clear HW HEV b1 a0 a1 a2 a3 a4 a5 a6 a7 a8 aJr;by_cases he:q.en.head?=some c
   ·have hd:=decide_eq_true he;rw[hd];have HHE:=qH he;have c1:=HWa.o.2.cell 1 rfl;have c2:=HWa.o.2.cell 2 rfl;have c3:=HWa.o.2.cell 3 rfl;have c4:=HWa.o.2.cell 4 rfl;clear hd he;go_wp2_with fail;clear c1 c2 c3 c4;generalize wr.heap.size=Q at HWa hSQ aKn ⊢;have HD0:Hd (Dn aC c mt t 0):=⟨by rw[HQ.o.2.2];exact HHE.o,fun l hl=>absurd hl (by omega)⟩;have hti:t<n:=by omega
    go_loopg [8,49] 4 (fun gh u8 u49 wx=>∃(l:Nat) (ws:List (List UInt8 × Nat)) (mt:List Bool),l<=4∧gh=4-l∧u49=I l∧unR aC c f i (unL q c wi gh l ws mt)=r∧ws[i]?=some (wi,t)∧UI aC fr c ws mt i∧Dn aC c mt t l∧UW w S n mt u8 ws wx∧aG wx Q [.string S0,.string S1,.string S2,.string S3,.string S4,I N0,I N1,I N2,I N3] 104∧∀q,u8.ownBlock=some q->q≠Q)
    case atStart=>exact⟨0,ws,mt,by omega,rfl,rfl,by rw[<-aJ5 HQ.o.1 HQ.o.2.2 HHE.o];exact Jg.o,HQ.o.1,HU.o,HD0.o,HWa.o.1,HWa.o.2,fun q hq=>by cases hq;exact Nat.ne_of_lt aKn⟩
    case round=>
     clear HWa HU HD0 aKn Jg;obtain⟨l,ws,mt,hl4,hgl,rfl,hgo,hwi,hU,hD,hW,hB,hnQ⟩:=hrel;by_cases hll:l<4
     ·have yZ:(l:Int)<4:=by omega
      have hix:=aJ2 l hll S1 S2 S3 S4;obtain⟨f2,rfl⟩:∃f2,gk=f2+1:=⟨4-(l+1),by omega⟩;rw[unL]at hgo;have Jg:=qH hgo;clear hgo;have hX:[S1,S2,S3,S4].getD l ⟨#[]⟩=⟨(q.sd.getD l []).toArray⟩:=by
       rw[HSN.o.2.1]
       match l,hll with
       | 0,_=>rfl
       | 1,_=>rfl
       | 2,_=>rfl
       | 3,_=>rfl
      have hcn:∀wx,aG wx Q [.string S0,.string S1,.string S2,.string S3,.string S4,I N0,I N1,I N2,I N3] 104->wx.cell? (J Q (5+l))=some (I ((q.nx.getD l 0:Nat):Int)):=fun wx hB=>by
       have h:=HSN.o.2.2;simp only[Tx.nexts,List.cons.injEq,and_true]at h;obtain⟨h0,h1,h2,h3⟩:=h
       match l,hll with
       | 0,_=>rw[<-h0];exact hB.cell 5 rfl
       | 1,_=>rw[<-h1];exact hB.cell 6 rfl
       | 2,_=>rw[<-h2];exact hB.cell 7 rfl
       | 3,_=>rw[<-h3];exact hB.cell 8 rfl
      obtain⟨X,hXe⟩:=eX ([S1,S2,S3,S4].getD l ⟨#[]⟩);rw[<-hXe]at hix hX;obtain⟨N,hNe⟩:=eX (q.nx.getD l 0);rw[<-hNe]at hcn;obtain⟨k2,hk2⟩:=eX (ws.length);obtain⟨pa2,pc2,ev2,-,hown⟩:=hW.ws.open hk2.symm;have hik:=(bU hwi).1;obtain⟨gv,hgv⟩:∃gv,pa2=some (J gv 0):=by
       obtain⟨g2,c2,h2,-⟩:=hW.ws.form (by omega);rw[ev2]at h2;injection h2 with h2 _;exact⟨g2,h2⟩
      subst hgv;have aKc:=hW.ws;rw[ev2]at aKc;obtain⟨WI,hWI⟩:=eX (⟨wi.toArray⟩:ByteArray);have cw:wr.cell? (J gv (i*2))=some (.string WI):=by rw[hWI];exact aKc.cell i 0 hwi rfl
      have CW:∀o,(wr.alloc o).cell? (J gv (i*2))=some (.string WI):=fun o=>by rw[hWI];exact(aKc.alloc o).cell i 0 hwi rfl
      have cn:=hcn wr hB;have CN:=fun o=>hcn _ (hB.alloc o)
      clear hcn;have aLy:(i:Int)<k2:=by omega
      have aKy:=hU.le;have hWs:WI.size<=200:=by
       have:=(hU.wok i wi t hwi).2.1;have e:WI.size=wi.length:=by rw[hWI,aZ]
       have:=HN.o;omega
      have hl1:(l:Int)+1<=4:=by omega
      have hl2:(0:Int)<=(l:Int)+1:=by omega
      have hl5:(l:Int)<=l+1:=by omega
      have hl6:((l:Int)+1).toNat=l+1:=by omega
      have hwr:IntKind.i64.wrap ((l:Int)+1)=(l:Int)+1:=by rw[IntKind.wrap_i64];omega
      have Lj:¬9223372036854775807<WI.size+(min (l+1) 4-l):=by omega
      have HX:=qH (And.intro hX (And.intro hNe (And.intro hWI hk2)));have HW:=qH hW;have HU:=qH hU;have HD:=qH hD;have HB:=qH hB;have HNQ:=qH hnQ;have HWI:=qH hwi;have HEV:=qH ev2;rw[ev2];clear hX hXe hNe hk2 hW hU hD hB hnQ hwi aKc hWI ev2 hown;go_wp2_with fail
      go_region
      have HV:Hd (WI++(⟨#[97,98,99,100]⟩:ByteArray).extract l (l+1)=⟨(wi++aT l).toArray⟩):=qH <| by
       rw[uG l hll,HX.o.2.2.1,oD]
      generalize WI++(⟨#[97,98,99,100]⟩:ByteArray).extract l (l+1)=V at HV ⊢;have Qm:Hd (UW w S n mt (Jn gv k2 pc2) ws (wr.alloc (.cells #[.string V,I N] 234)).drew∧aG (wr.alloc (.cells #[.string V,I N] 234)).drew Q [.string S0,.string S1,.string S2,.string S3,.string S4,I N0,I N1,I N2,I N3] 104∧aG (wr.alloc (.cells #[.string V,I N] 234)).drew wr.heap.size [.string V,I N] 234∧Q<wr.heap.size∧wr.heap.size<(wr.alloc (.cells #[.string V,I N] 234)).drew.heap.size):=⟨by have:=HW.o.no (((Mod.refl _ _).alloc (.cells #[.string V,I N] 234)).drew);rw[HEV.o]at this;exact this,(HB.o.alloc _).drew,(heap_alloc_new wr _),HB.o.lt,by simp⟩;generalize (wr.alloc (.cells #[.string V,I N] 234)).drew=wb at Qm ⊢;generalize wr.heap.size=P at Qm ⊢;clear HW HB cw CW cn CN hix;have hNn:N<n:=by
       have h:=HF.o.inn t q l HQ.o.2.1 hll;rw[HX.o.2.1,HN.o];exact h
      have hNi:(N:Int)<n:=by omega
      have p0:=Qm.o.2.2.1.cell 0 rfl;have p1:=Qm.o.2.2.1.cell 1 rfl;have hXl:X.data.toList=q.sd.getD l []:=by rw[HX.o.1]
      by_cases h0:q.sd.getD l []=[]
      ·have hs0:X.toList.isEmpty=true:=by rw[toList_data,hXl,h0];rfl
       obtain⟨bt,hbt⟩:∃b,mt[N]?=some b:=⟨mt[N]'(by rw[HU.o.ml,<-HN.o];exact hNn),bG _⟩;have cm:=GH Qm.o.1.mt hbt
       cases bt with
       | true=>
        have HDn:Hd (Dn aC c mt t (l+1)):=by
         refine⟨HD.o.1,fun j hj=>?_⟩;by_cases e:j=l
         ·subst e;rw[HQ.o.2.2];exact Or.inr ⟨h0,by rw[<-HX.o.2.1];exact hbt⟩
         ·exact HD.o.2 j (by omega)
        have HG2:Hd (unR aC c f i (unL q c wi f2 (l+1) ws mt)=r):=by
         have h:=Jg.o;rw[aP h0,aU (by rw[<-HX.o.2.1,hbt];simp)]at h;exact h
        clear hbt hXl h0;go_wp2;go_roundg f2
        case measure=>omega
        case rel=>exact⟨l+1,ws,mt,by omega,by omega,by go_num,HG2.o,HWI.o,HU.o,HDn.o,Qm.o.1,Qm.o.2.1,fun q hq=>HNQ.o q (by rw[HEV.o];exact hq)⟩
       | false=>
        have HU2:Hd (UI aC fr c (ws++[(wi++aT l,N)]) (mt.set N true) i):=by
         have h:=HU.o.push HF.o HWI.o hll (by rw[HQ.o.2.2];exact h0) (by rw[HQ.o.2.2,<-HX.o.2.1];exact hbt);rw[HQ.o.2.2,<-HX.o.2.1]at h;exact h
        have HDn:Hd (Dn aC c (mt.set N true) t (l+1)):=by
         refine⟨HD.o.1,fun j hj=>?_⟩;by_cases e:j=l
         ·subst e;rw[HQ.o.2.2];exact Or.inr ⟨h0,by rw[<-HX.o.2.1];exact getElem?_set_self (by rw[HU.o.ml,<-HN.o];exact hNn)⟩
         ·exact(HD.o.up N).2 j (by omega)
        have fm:=Qm.o.1.mt.free N;have HWc:Hd (UW w S n (mt.set N true) (Jn gv k2 pc2) ws (wb.setCell (J S N) (.bool true))∧aG (wb.setCell (J S N) (.bool true)) Q [.string S0,.string S1,.string S2,.string S3,.string S4,I N0,I N1,I N2,I N3] 104∧aG (wb.setCell (J S N) (.bool true)) P [.string V,I N] 234):=⟨⟨aB4 Qm.o.1.mt hbt true,Qm.o.1.ws.other (a:=J S N) (fun e=>by have:=Qm.o.1.ne S e;omega) _,Qm.o.1.ne,Qm.o.1.md.setCell (a:=J S N) (fun h=>absurd h (by have:=HS.o;show ¬S<w.heap.size;omega)) _⟩,Qm.o.2.1.other (a:=J S N) (by show Q≠S;omega) _,Qm.o.2.2.1.other (a:=J S N) (by have:=Qm.o.2.2.2.1;show P≠S;omega) _⟩;have hPb:=Qm.o.2.2.2;have HG2:Hd (unR aC c f i (unL q c wi f2 (l+1) (ws++[(wi++aT l,N)]) (mt.set N true))=r):=by
         have h:=Jg.o;rw[aP h0,<-HX.o.2.1,aP hbt]at h;exact h
        generalize hwc:wb.setCell (J S N) (.bool true)=wc at HWc;have d0:=HWc.o.2.2.cell 0 rfl;have d1:=HWc.o.2.2.cell 1 rfl;have hPc:=HWc.o.2.2.lt;have hown:wc.ownsRow 0 234 2 (Jn gv k2 pc2) k2 (ws.flatMap WyE.f):=by
         have h:wc.ownsRow 0 234 2 (Jn gv k2 pc2) ws.length (ws.flatMap WyE.f):=HWc.o.1.ws;rw[<-HX.o.2.2.2]at h;exact h
        have aLx:k2<=200:=by have:=HX.o.2.2.2;have:=HN.o;omega
        clear hbt hXl h0;go_wp2_with (at_builtin;refine wpList_append_lies _ rfl _ _ 235 rfl 0 234 i0 _ 2 24 underlying235 af hz0 hz1 hz2 rfl (by omega) (Jn gv k2 pc2) k2 (ws.flatMap WyE.f) rfl (hown.alloc _) (J wc.heap.size 0) 1 1 [.string V,I N] rfl rfl (World.news_of_block (cs:=#[.string V,I N]) (t:=234) (fr:=(0,0)) (heap_alloc_new wc _)) (by intro u hu;simp at hu;rcases hu with rfl | rfl <;> rfl) (by omega) (by unfold maxLen;omega) (by omega) (by simp) (wc.heap.size+1) (by simp) ?_);intro gg cap2 w7 gV hgrow hat fJ;have vY:Row WyE w7 (Jn gg (k2+1) cap2) (ws++[(wi++aT l,N)]):=jq HX.o.2.2.2.symm (by rw[HV.o];rfl) gV;have Cb:gg=gv∨wc.heap.size<gg:=by
         rcases hat with e | e
         ·exact Or.inl (dY e).symm
         ·exact Or.inr (by omega)
        have aKu:∀x,(Jn gg (k2+1) cap2).ownBlock=some x->S<x:=fun x hx=>by
         cases hx;rcases Cb with e | e
         ·rw[e];exact HWc.o.1.ne gv rfl
         ·show S<gg;omega
        have xJ:Hd (UW w S n (mt.set N true) (Jn gg (k2+1) cap2) (ws++[(wi++aT l,N)]) w7):=⟨(HWc.o.1.mt.alloc _).grown hgrow (Or.inr (fun e=>by have:=HWc.o.1.ne S e.symm;omega)),vY,aKu,(HWc.o.1.md.alloc _).grown hgrow (fun x hx hlt=>absurd hlt (by have:=HWc.o.1.ne x hx;have:=HS.o;omega))⟩;have HB7:=qH ((HWc.o.2.1.alloc _).grown hgrow (fun e=>HNQ.o Q (by rw[HEV.o];exact e.symm) rfl));have HN7:Hd (∀x,(Jn gg (k2+1) cap2).ownBlock=some x->x≠Q):=fun x hx=>by
         cases hx;rcases Cb with e | e
         ·rw[e];exact HNQ.o gv (by rw[HEV.o];rfl)
         ·show gg≠Q;omega
        clear vY gV hgrow hat fJ hown hwc d0 d1 p0 p1 Cb aKu;go_wp2;go_roundg f2
        case measure=>omega
        case rel=>exact⟨l+1,_,_,by omega,by omega,by go_num,HG2.o,by rw[jG (by omega)];exact HWI.o,HU2.o,HDn.o,xJ.o,HB7.o,HN7.o⟩
      ·have hs0:X.toList.isEmpty=false:=by
        rw[toList_data,hXl];cases hc:q.sd.getD l []with
        | nil=>exact absurd hc h0
        | cons _ _=>rfl
       have aJr:=aI3 X c;rw[hXl]at aJr;by_cases he:(q.sd.getD l []).head?=some c
       ·have hd:=decide_eq_true he;rw[hd]at aJr;have HDn:Hd (Dn aC c mt t (l+1)):=by
         refine⟨HD.o.1,fun j hj=>?_⟩;by_cases e:j=l
         ·subst e;rw[HQ.o.2.2];exact Or.inl he
         ·exact HD.o.2 j (by omega)
        have HG2:Hd (unR aC c f i (unL q c wi f2 (l+1) ws mt)=r):=by
         have h:=Jg.o;rw[aU h0,aP he]at h;exact h
        clear hd he hXl h0;go_wp2_with fail;refine(aJr _).mono ?_;rintro e w1 ⟨rfl,rfl⟩;go_wp2;go_roundg f2
        case measure=>omega
        case rel=>exact⟨l+1,ws,mt,by omega,by omega,by go_num,HG2.o,HWI.o,HU.o,HDn.o,Qm.o.1,Qm.o.2.1,fun q hq=>HNQ.o q (by rw[HEV.o];exact hq)⟩
       ·have hd:=lT he;rw[hd]at aJr;have HG2:Hd (wi++aT l=r):=by
         have h:=Jg.o;rw[aU h0,aU he]at h;exact h
        have HR:Hd (Un aC fr c (wi++aT l)):=HU.o.said HWI.o hll (by rw[HQ.o.2.2];exact h0) (by rw[HQ.o.2.2];exact he);clear hd he hXl h0;go_wp2_with fail;refine(aJr _).mono ?_;rintro e w1 ⟨rfl,rfl⟩;go_wp2;go_ret;exact⟨by rw[<-HG2.o,<-HV.o];rfl,by rw[<-HG2.o];exact HR.o,Qm.o.1.md⟩
     ·obtain rfl:l=4:=by omega
      have hUn:=hU.next hwi hD;obtain rfl:gk=0:=by omega
      have Jg:=qH hgo;clear hgo hgl;have hwk:=(bU hwi).1;have HW2:=qH hW;clear hU hW hB hD;go_wp2;go_roundg f
      case measure=>omega
      case rel=>exact⟨i+1,ws,mt,by go_num,by omega,by omega,Jg.o,hUn,HW2.o⟩
   ·have hd:=lT he;rw[hd];have b0:wa.cell? (J gw (i*2))=some (.string ⟨wi.toArray⟩):=HWa.o.1.ws.cell i 0 HQ.o.1 rfl;have HG2:Hd (wi=r):=by
     have h:=Jg.o;rw[aKb HQ.o.1 HQ.o.2.2 he]at h;exact h
    have HR:Hd (Un aC fr c wi):=HU.o.end_ HQ.o.1 (by rw[HQ.o.2.2];exact he);clear hd he;go_wp2;go_ret;exact⟨by rw[<-HG2.o];rfl,by rw[<-HG2.o];exact HR.o,HWa.o.1.md⟩
  ·exact(UI.fin HF.o (by rw[<-HN.o];exact hfr) hU (by omega)).elim
theorem aJ6{S0 S1 S2 S3 S4:ByteArray}{N0 N1 N2 N3:Nat}(h:S0=⟨q.en.toArray⟩∧[S1,S2,S3,S4]=(JP q).map (fun l=>(⟨l.toArray⟩:ByteArray))∧[N0,N1,N2,N3]=Tx.nexts q):[.string S0,.string S1,.string S2,.string S3,.string S4,I N0,I N1,I N2,I N3]=BO.f q:=by
 obtain⟨h0,h1,h2⟩:=h;simp only[JP,map_cons,map_nil,List.cons.injEq,and_true]at h1;simp only[Tx.nexts,List.cons.injEq,and_true]at h2;obtain⟨h3,h4,h5,h6⟩:=h1;obtain⟨h7,h8,h9,h10⟩:=h2;subst h0 h3 h4 h5 h6 h7 h8 h9 h10;rfl
theorem aIO(h:aG w b (BO.f q) 104)(hl:l<4):w.cell? (J b (1+l))=some (.string ⟨(q.sd.getD l []).toArray⟩):=by
 match l,hl with
 | 0,_=>exact h.cell 1 rfl
 | 1,_=>exact h.cell 2 rfl
 | 2,_=>exact h.cell 3 rfl
 | 3,_=>exact h.cell 4 rfl
theorem aJt(h:aG w b (BO.f q) 104)(hl:l<4):w.cell? (J b (5+l))=some (I ((q.nx.getD l 0:Nat):Int)):=by
 match l,hl with
 | 0,_=>exact h.cell 5 rfl
 | 1,_=>exact h.cell 6 rfl
 | 2,_=>exact h.cell 7 rfl
 | 3,_=>exact h.cell 8 rfl
def Made(w:World)(M:Nat)(ps:List (Th.LR × Value))(aC:List iL):Prop:=∃m R c,aG w M [Jx m 0,Jn R ps.length c] 48∧lC w m aC∧nZ w (Jn R ps.length c) ps
theorem Made.no(h:Made w M ps aC)(hm:Mod No w w'):Made w' M ps aC:=by
 obtain⟨m,R,c,h1,h2,h3⟩:=h;exact⟨m,R,c,h1.mod hm (fun x=>x),h2.no hm,h3.mod hm⟩
theorem Made.only(h:Made w M ps aC)(hb:aG w b cs 31)(hm:Mod (fun k=>k=b) w w'):Made w' M ps aC:=by
 obtain⟨m,R,c,h1,h2,h3⟩:=h;refine⟨m,R,c,h1.mod hm (fun e=>?_),h2.only hb hm,h3.row.mod hm (fun g hg e=>h3.row.blk hb (by decide) (by rw[hg,e])),fun p hp=>(h3.Y5 p hp).mod hm (fun g hg e=>(h3.Y5 p hp).blk hb (by decide) (by rw[hg,e]))⟩;subst e;have:=h1.symm.trans hb;injection this with this;injection this with _ h2;exact absurd h2 (by decide)
structure Ms(w:World)(b m:Nat)(cs:List Value)(aC:List iL)(M:Nat)(ps:List (Th.LR × Value))(wx:World):Prop where
 bl:aG wx b cs 31
 md:Mod (fun k=>k=b) w wx
 mc:lC wx m aC
 md2:Made wx M ps aC
theorem Ms.up{m:Nat}{wx wy:World}(h:Ms w b m cs aC M ps wx)(hm:Mod No wx wy):Ms w b m cs aC M ps wy:=⟨h.bl.mod hm (fun x=>x),h.md.no hm,h.mc.no hm,h.md2.no hm⟩
theorem aJD(w:World)(B b R q lc:Nat)(nv wv:Option Addr)(ps:List (Th.LR × Value))(l:List Th.LR)(hb:aG w b [Jn R q lc,.string (sb (aQ l)),.pointer nv,.pointer wv] 31)(hL:nZ w (Jn R q lc) ps)(hq:q=ps.length)(hps:ps.map Prod.fst=l)(hok:∀a∈l,a.Ok)(h1:1<=q)(h4:q<=4)(htab:Lib.TabBelow prog B w uI .u64 Lib.pow10Tab)(hB1:B<=b)(hB2:B<=w.heap.size)
  (rs:List aI.Rule) (v:M2.View) (aC:List iL) (hr:aI.cZ 1000 (aQ l) 0 []=some (rs,0,0)) (hrl:rs.length≠0) (hv:M3.view rs=some (some v)) (hst:M3.states v 200=some (some aC)) (hf:M3.find v=some none) (hm:JS aC) (hs1:M3.states v aC.length=some (some aC)) (hs2:∀m,m<aC.length->M3.states v m=some none):J1 7 #[Jx b 0] w fun e w'=>e=.returned (.bool true)∧Mod (fun k=>k=b) w w'∧∃M,aG w' b [Jn R q lc,.string (sb (aQ l)),Jx M 0,.pointer nv] 31∧Made w' M ps aC:=by
 have HB:=qH hb;have hlen:(aQ l).length<=1048576:=by
  have:=mr l hok;have e:l.length=q:=by rw[<-hps,length_map,hq]
  omega
 have hle:=hm.le;have hpos:=hm.pos;have HC:Hd (∀wx,J1 11 #[.string (sb (aQ l)),I 200] wx fun e w'=>(∃m,e=.returned (.tuple #[Jx m 0,noV,I 0])∧lC w' m aC)∧Mod No wx w'):=fun wx=>Jv wx l hlen (limit:=200) (by omega) (by omega) (IJ hr hrl hv hst (by omega))
 have HCN:=qH fun wx=>Jv wx l hlen hpos hle (IJ hr hrl hv hs1 (by omega))
 have HCM:Hd (∀wx,∃f:Nat,(f=5∨(f=6∧aC.length=1))∧J1 11 #[.string (sb (aQ l)),I ((aC.length:Int)-1)] wx fun e w'=>(∃X Y Z1 Z2 c,e=.returned (.tuple #[.pointer none,.agg #[I 0,.string X,.string Y,.string Z1,.string Z2,I c],I f]))∧Mod No wx w'):=fun wx=>by
  rcases iK 1 aC.length with hn | hn
  ·refine⟨5,Or.inl rfl,?_⟩;have h:=BR wx l hlen (limit:=aC.length-1) (by omega) (by omega) (k:=5) (by omega) (II hr hrl hv (hs2 _ (by omega)) hf);rw[show ((aC.length-1:Nat):Int)=(aC.length:Int)-1 by omega]at h;refine h.mono ?_;rintro e w' ⟨⟨X,Y,Z1,Z2,c,he,-⟩,hm⟩;exact⟨⟨X,Y,Z1,Z2,c,he⟩,hm⟩
  ·refine⟨6,Or.inr ⟨rfl,by omega⟩,?_⟩;have h:=Qj wx (sb (aQ l));rw[show (aC.length:Int)-1=0 by omega];refine h.mono ?_;rintro e w' ⟨he,hm⟩;exact⟨⟨_,_,_,_,_,he⟩,hm⟩
 have HT:=qH fun wx m (hmx:Mod (fun k=>k=b) w wx) (hmm:lC wx m aC)=>aBa B wx (htab.on (Uf hmx hB1 hB2)) hm hmm
 have HLD:=qH fun wx=>aA9 wx hm
 have HRW:=qH (a2 hL hq);have HWd:Hd (∀p∈ps,Row NH w p.2 p.1.c.words∧p.2.ownBlock≠some b):=fun p hp=>⟨hL.Y5 p hp,(hL.Y5 p hp).blk hb (by decide)⟩
 generalize sb (aQ l)=T at HB HC HCN HCM ⊢;generalize (⟨(bV aC).toArray⟩:ByteArray)=TX at HT HLD;obtain⟨N,hN⟩:=eX aC.length;rw[<-hN]at hle hpos HCN HCM;have HN:=qH hN;clear hb hL hps hok hlen hq hr hrl hv hst hf hm hs1 hs2 htab hN;have hqi:¬(q:Int)<1:=by omega
 have hqj:¬(4:Int)<(q:Int):=by omega
 go_enter func7,ntmps7;go_wp2_with fail;refine(IG _).mono ?_;rintro e w1 ⟨⟨m1,rfl⟩,mm1⟩;have c1:=(HB.o.mod mm1 (fun x=>x)).aS 1 rfl;have lF:Hd (Mod No w (w1.alloc (.cells #[I 0,.string ⟨#[]⟩,.string ⟨#[]⟩,.string ⟨#[]⟩,.string ⟨#[]⟩,I 0] 42))):=mm1.alloc _;clear mm1;unfold noV;go_wp2_with fail;clear c1;generalize w1.alloc (.cells #[I 0,.string ⟨#[]⟩,.string ⟨#[]⟩,.string ⟨#[]⟩,.string ⟨#[]⟩,I 0] 42)=w2 at *;refine(HC.o _).mono ?_;rintro e w3 ⟨⟨m,rfl,hmm⟩,m3⟩;have HB3:=qH ((HB.o.mod lF.o (fun x=>x)).mod m3 (fun x=>x));have HB4:Hd (aG (w3.alloc (.cells #[I 0,.string ⟨#[]⟩,.string ⟨#[]⟩,.string ⟨#[]⟩,.string ⟨#[]⟩,I 0] 42)) b [Jn R q lc,.string T,.pointer nv,.pointer wv] 31):=HB3.o.alloc _;have Aa:Hd (Mod No w (w3.alloc (.cells #[I 0,.string ⟨#[]⟩,.string ⟨#[]⟩,.string ⟨#[]⟩,.string ⟨#[]⟩,I 0] 42))):=(lF.o.no m3).alloc _;have HMM:Hd (lC (w3.alloc (.cells #[I 0,.string ⟨#[]⟩,.string ⟨#[]⟩,.string ⟨#[]⟩,.string ⟨#[]⟩,I 0] 42)) m aC):=hmm.no ((Mod.refl _ _).alloc _);have c0:=HB4.o.cell 0 rfl;have c2:=HB4.o.cell 2 rfl;have c3:=HB4.o.cell 3 rfl;have f2:=HB4.o.free 2;have f3:=HB4.o.free 3;clear HB HC m3 lF HB3 hmm;unfold noV;go_upto_region 5 with fail;generalize hW4:w3.alloc (.cells #[I 0,.string ⟨#[]⟩,.string ⟨#[]⟩,.string ⟨#[]⟩,.string ⟨#[]⟩,I 0] 42)=w4 at *;have HM5:Hd (Mod (fun k=>k=b) w (w4.setCell (J b 3) (.pointer nv))):=Mod.setCell (S:=fun k=>k=b) (Aa.o.more (fun _ _ x=>x.elim)) (a:=J b 3) (fun _=>rfl) _;have Qv:Hd (aG (w4.setCell (J b 3) (.pointer nv)) b [Jn R q lc,.string T,.pointer nv,.pointer nv] 31):=HB4.o.set 3 _;have Xn:Hd (Row Zn (w4.setCell (J b 3) (.pointer nv)) (Jn R q lc) ps):=(HRW.o.1.row.no Aa.o).other (fun e=>HB4.o.apart (HRW.o.1.row.no Aa.o) (by decide) e) _;have aFZ:Hd (lC (w4.setCell (J b 3) (.pointer nv)) m aC):=HMM.o.only HB4.o (Mod.setCell (S:=fun k=>k=b) (Mod.refl _ _) (a:=J b 3) (fun _=>rfl) _);obtain⟨i0,af,hz0,hz1,hz2⟩:=info_parts aJk;have hnl:(ps.flatMap Zn.f).length=q*6:=by rw[HRW.o.2];exact HRW.o.1.row.1
 have hone:∀u∈ps.flatMap Zn.f,u.oneCell'=true:=fun u hu=>by
  obtain⟨p,hp,hu⟩:=mem_flatMap.1 hu;obtain⟨va,vc,hv,-,-,-⟩:=(HRW.o.1.Y5 p hp).any;have hp2:p.2=.slice va p.1.c.words.length vc:=hv;simp[Zn,hp2]at hu;rcases hu with rfl | rfl | rfl | rfl | rfl | rfl <;> rfl
 have hnews:∀j u,(ps.flatMap Zn.f)[j]?=some u->(w4.setCell (J b 3) (.pointer nv)).cell? (((J R 0):Addr).add j)=some u:=fun j u hu=>by
  have:=World.ownsRow.cells Xn.o (g:=R) rfl j u hu;simpa [Addr.add] using this
 have hfr:∀wx,wx=w4.setCell (J b 3) (.pointer nv)->wx.cell? (J b 2)=some (.pointer nv):=fun wx h=>by rw[h];exact Qv.o.cell 2 rfl
 have d0:=Qv.o.cell 0 rfl;have d2:=Qv.o.cell 2 rfl;have g2:=Qv.o.free 2;clear hfr;go_wp2_with (at_builtin;refine wpList_append_lies _ rfl _ _ 28 rfl w.heap.size 76 i0 _ 6 64 underlying28 af hz0 hz1 hz2 rfl (by omega) (.slice none 0 0) 0 [] rfl (World.ownsRow_nil _ _ _ _) (J R 0) q lc (ps.flatMap Zn.f) rfl hnl hnews hone (by omega) (by unfold maxLen;omega) (by omega) (by have:=HM5.o.size;exact this) (w4.setCell (J b 3) (.pointer nv)).heap.size rfl ?_);intro gg cap2 w6 hown6 hg6 hgg aHe;have HB6:=qH (Qv.o.grown hg6 (by intro h;cases h));have HM6:=qH (HM5.o.grown hg6 (fun g h=>by cases h));have aHf:=qH (aFZ.o.no ((Mod.refl No _).grown hg6 (fun g h=>by cases h)));have e2:=HB6.o.dQ 2;have e2c:=HB6.o.aS 2 rfl;have HMs:Hd (Ms w b m [Jn R q lc,.string T,Jx w6.heap.size 0,.pointer nv] aC w6.heap.size ps ((w6.alloc (.cells #[Jx m 0,Jn gg q cap2] 48)).setCell (J b 2) (Jx w6.heap.size 0))):=by
  have m7:Mod (fun k=>k=b) (w6.alloc (.cells #[Jx m 0,Jn gg q cap2] 48)) ((w6.alloc (.cells #[Jx m 0,Jn gg q cap2] 48)).setCell (J b 2) (Jx w6.heap.size 0)):=Mod.setCell (S:=fun k=>k=b) (Mod.refl _ _) (a:=J b 2) (fun _=>rfl) _;have n7:Mod No w6 (w6.alloc (.cells #[Jx m 0,Jn gg q cap2] 48)):=(Mod.refl _ _).alloc _;have hrow:Row Zn w6 (Jn gg q cap2) ps:=by
   have:=aAu hown6;show w6.ownsRow 0 76 6 _ ps.length (ps.flatMap Zn.f);rw[<-HRW.o.2];simpa using this
  have hmk:Made (w6.alloc (.cells #[Jx m 0,Jn gg q cap2] 48)) w6.heap.size ps aC:=by
   refine⟨m,gg,cap2,?_,aHf.o.no n7,?_,fun p hp=>?_⟩
   ·rw[<-HRW.o.2];exact heap_alloc_new w6 _
   ·rw[<-HRW.o.2];exact hrow.no n7
   ·exact((HWd.o p hp).1.mod HM6.o (fun g hg e=>(HWd.o p hp).2 (by rw[hg,e]))).no n7
  exact⟨(HB6.o.alloc _).set 2 _,(HM6.o.alloc _).trans m7,(aHf.o.no n7).only (HB6.o.alloc _) m7,hmk.only (HB6.o.alloc _) m7⟩
 clear hown6 hg6 hgg aHe af hz0 hz1 hz2 hnl hone hnews d0 d2 g2 c0 c2 c3 f2 f3 HB4 Qv Aa HM5 HMM aFZ Xn;go_wp2_with fail;clear e2 e2c;generalize (w6.alloc (.cells #[Jx m 0,Jn gg q cap2] 48)).setCell (J b 2) (Jx w6.heap.size 0)=w8 at *;generalize w6.heap.size=MB at *;refine(MZ _ m aC HMs.o.mc).mono ?_;rintro e w9 ⟨rfl,rfl⟩;rw[<-HN.o];have d1:=HMs.o.bl.cell 1 rfl;go_wp2_with fail;clear d1;refine(HCN.o _).mono ?_;rintro e w10 ⟨⟨m2,rfl,hm2⟩,aCD⟩;unfold noV;have aKt:=qH (HMs.o.up (aCD.alloc (.cells #[I 0,.string ⟨#[]⟩,.string ⟨#[]⟩,.string ⟨#[]⟩,.string ⟨#[]⟩,I 0] 42)));have aEI:=qH (hm2.no ((Mod.refl _ _).alloc (.cells #[I 0,.string ⟨#[]⟩,.string ⟨#[]⟩,.string ⟨#[]⟩,.string ⟨#[]⟩,I 0] 42)));clear hm2 aCD HMs;go_wp2_with fail;generalize w10.alloc (.cells #[I 0,.string ⟨#[]⟩,.string ⟨#[]⟩,.string ⟨#[]⟩,.string ⟨#[]⟩,I 0] 42)=w11 at *;refine(HT.o _ m2 aKt.o.md aEI.o).mono ?_;rintro e w12 ⟨rfl,m12⟩;have YM:=qH (aKt.o.up m12);clear m12 aKt aEI;go_wp2_with fail;refine(HT.o _ m YM.o.md YM.o.mc).mono ?_;rintro e w13 ⟨rfl,m13⟩;have YN:=qH (YM.o.up m13);clear m13 YM;go_wp2_with fail;refine(HT.o _ m YN.o.md YN.o.mc).mono ?_;rintro e w14 ⟨rfl,m14⟩;have aCE:=qH (YN.o.up m14);clear m14 YN;go_wp2_with fail;refine(HLD.o _).mono ?_;rintro e w15 ⟨⟨m3,rfl,Ae⟩,m15⟩;have aBb:=qH (aCE.o.up m15);have aF1:=qH Ae;clear m15 Ae aCE;go_wp2_with fail;refine(HT.o _ m3 aBb.o.md aF1.o).mono ?_;rintro e w16 ⟨rfl,m16⟩;have YO:=qH (aBb.o.up m16);clear m16 aBb aF1;go_wp2_with fail;refine(HT.o _ m YO.o.md YO.o.mc).mono ?_;rintro e w17 ⟨rfl,m17⟩;have aEJ:=qH (YO.o.up m17);clear m17 YO;have d1:=aEJ.o.bl.cell 1 rfl;go_wp2_with fail;obtain⟨f,hf,hcm⟩:=HCM.o w17;refine hcm.mono ?_;rintro e w18 ⟨⟨X,Y,Z1,Z2,c,rfl⟩,m18⟩;have aJi:=qH (aEJ.o.up m18);clear m18 aEJ d1 hcm;rcases hf with rfl | ⟨rfl,hN1⟩
 ·by_cases hN1:N=1
  ·subst hN1;go_wp2_with fail;go_ret;exact⟨rfl,aJi.o.md,MB,aJi.o.bl,aJi.o.md2⟩
  ·have aIu:((N:Int)==1)=false:=by rw[beq_eq_false_iff_ne];omega
   go_wp2_with fail;go_ret;exact⟨rfl,aJi.o.md,MB,aJi.o.bl,aJi.o.md2⟩
 ·subst hN1;go_wp2_with fail;go_ret;exact⟨rfl,aJi.o.md,MB,aJi.o.bl,aJi.o.md2⟩
end
section
open Go.RowKit
structure aJ7(l:List Th.LR)(aC:List iL):Prop where
 fx:∃v,VF v∧MFx v aC
 lm:JS aC
 law:∀z,Th.Wd z->wV l 0 z=kC aC 0 z
theorem aJ8{l:List Th.LR}(ho:∀a∈l,a.Ok)(h1:1<=l.length)(h4:l.length<=4){rs:List aI.Rule}{v:M2.View}{aC:List iL}(hr:aI.cZ 1000 (aQ l) 0 []=some (rs,0,0))(hv:M3.view rs=some (some v))(hst:M3.states v 200=some (some aC))(hm:JS aC):aJ7 l aC:=by
 obtain⟨rs',hrs,hread⟩:=FH l 1000 0 [] (by omega) ho;rw[aU (by omega),nil_append,hr]at hread;obtain rfl:rs=rs':=(Prod.mk.inj (dY hread)).1;obtain⟨hvf,hk,-⟩:=sZ hv;obtain⟨sr,hst',hsr⟩:=KT hvf hk (limit:=200) (by omega) (by omega);rw[hst]at hst';obtain⟨hM,-⟩:=hsr aC (dY hst').symm;have fx:=aBO hM;refine⟨⟨v,hvf,fx⟩,hm,fun z hz=>?_⟩;rw[fx.all z hz];unfold Th.R;rw[tN hrs hv z 0 hz]
theorem aJc(w:World)(B b:Nat)(vl:Value)(ps:List (Th.LR × Value))(l:List Th.LR)(hb:aG w b [vl,.string (sb (aQ l)),.pointer none,.pointer none] 31)(hL:nZ w vl ps)(hps:ps.map Prod.fst=l)(hok:∀a∈l,a.Ok)(h5:l.length<=5)(htab:Lib.TabBelow prog B w uI .u64 Lib.pow10Tab)(hB1:B<=b)(hB2:B<=w.heap.size):J1 7 #[Jx b 0] w fun e w'=>e=.returned (.bool true)∧Mod (fun k=>k=b) w w'∧∃p,aG w' b [vl,.string (sb (aQ l)),.pointer p,.pointer none] 31∧(p=none∨∃M aC,p=some (J M 0)∧Made w' M ps aC∧aJ7 l aC∧1<=l.length∧l.length<=4):=by
 have hlen:ps.length=l.length:=by rw[<-hps,length_map]
 have no:∀{e w'},(e=Ending.returned (.bool true)∧Mod No w w')->e=Ending.returned (.bool true)∧Mod (fun k=>k=b) w w'∧∃p,aG w' b [vl,.string (sb (aQ l)),.pointer p,.pointer none] 31∧(p=none∨∃M aC,p=some (J M 0)∧Made w' M ps aC∧aJ7 l aC∧1<=l.length∧l.length<=4):=fun h=>⟨h.1,h.2.more (fun _ _ x=>x.elim),none,hb.mod h.2 (fun x=>x),Or.inl rfl⟩
 by_cases hr:l.length<1∨4<l.length
 ·obtain⟨la,lc,rfl,-,-,-⟩:=hL.row.any;exact(BU w b la ps.length lc _ _ ps l hb hL hlen hps hok (by omega) (Or.inl ⟨rfl,by omega⟩) (Qk (O8 hok hr (by omega)))).mono fun _ _ h=>no h
 ·obtain⟨R,lc,rfl,-,-⟩:=hL.row.form (by omega);have hc:=Th.comes hok (by omega) (by omega) (limit:=200) (by omega) (by omega)
  cases hc with
  | big rs h1 h2 h3=>
   exact(BU w b _ ps.length lc _ _ ps l hb hL hlen hps hok (by omega) (Or.inr ⟨Or.inl rfl,by omega,by omega⟩) (Uc h1 h2 h3)).mono fun _ _ h=>no h
  | twin rs v x h1 h2 h3 h4 h5 h6=>
   exact(YK w b R ps.length lc _ _ ps l hb hL rfl hps hok (by omega) (by omega) rs v x h1 h2 h3 h4 h5 h6).mono fun _ _ h=>no h
  | much rs v h1 h2 h3 h4 h5=>
   exact(BU w b _ ps.length lc _ _ ps l hb hL hlen hps hok (by omega) (Or.inr ⟨Or.inr rfl,by omega,by omega⟩) (II h1 h2 h3 h4 h5)).mono fun _ _ h=>no h
  | made rs v aC h1 h2 h3 h4 h5 h6 h7 h8 h9=>
   refine(aJD w B b R ps.length lc none none ps l hb hL rfl hps hok (by omega) (by omega) htab hB1 hB2 rs v aC h1 h2 h3 h4 h6 h7 h8 h9).mono ?_;rintro e w' ⟨he,hm,M,hB,hMd⟩;exact⟨he,hm,_,hB,Or.inr ⟨M,aC,rfl,hMd,aJ8 hok (by omega) (by omega) h1 h3 h4 h7,by omega,by omega⟩⟩
end
section
open Go.RowKit
attribute [local go_sem ↓] Go.wp_at_zero Go.wp_at_succ
def aKi(zs:List (List UInt8)):Prop:=∀(k:Nat) (z:List UInt8),zs[k]?=some z->Th.Wb z∧z.length<=k+4
theorem aKi.app{zs zt:List (List UInt8)}(h:aKi zs)(ht:∀z∈zt,Th.Wb z∧z.length<=zs.length+4):aKi (zs++zt):=fun k z hz=>by
 by_cases hk:k<zs.length
 ·rw[jG hk]at hz;exact h k z hz
 ·rw[mW (by omega)]at hz;obtain⟨h1,h2⟩:=ht z (iI hz);exact⟨h1,by omega⟩
structure TsI(w:World)(u:Value)(zs:List (List UInt8))(wr:World):Prop where
 row:Row NH wr u zs
 ok:aKi zs
 md:Mod No w wr
 nw:∀q,u.ownBlock=some q->w.heap.size<=q
theorem Row.many{α:Type}{E:Enc α}{w:World}{v:Value}{xs ys:List α}{n:Nat}{nc:List Value}(hn:xs.length+ys.length=n)(hx:nc=ys.flatMap E.f)(h:w.ownsRow 0 E.T E.c v n (xs.flatMap E.f++nc)):Row E w v (xs++ys):=by
 show w.ownsRow 0 E.T E.c v (xs++ys).length ((xs++ys).flatMap E.f);rw[flatMap_append,length_append,hn,<-hx];exact h
def eight:List (List UInt8):=[[97,97,97,97],[97,98,97,98],[98,98,98,99],[99,97,98,100],[100,100,100,100],[97,97,97,98],[99,99,99,98],[98,99,98,99]]
theorem aJ9:∀z∈eight,Th.Wb z∧z.length=4:=by
 unfold Th.Wb;decide
theorem aJW(w:World):J1 28 #[] w fun e w'=>∃v zs,e=.returned v∧Row NH w' v zs∧(∀z∈zs,Th.Wb z∧z.length<=60)∧1<=zs.length∧zs.length<=40∧Mod No w w':=by
 obtain⟨i0,af,hz0,hz1,hz2⟩:=info_parts aIG;have HW0:Hd (TsI w (Jn w.heap.size 1 1) [[]] (w.alloc (.cells #[.string ⟨#[]⟩] 9))):=by
  refine⟨Row.of_block (E:=NH) (xs:=[[]]) (heap_alloc_new _ _) (by show 1<=_;unfold maxLen;decide),fun k z hz=>?_,(Mod.refl _ _).alloc _,fun q hq=>by cases hq;exact dH _⟩;have:z=[]:=by
   have:=iI hz;simpa using this
  subst this;exact⟨fun _ h=>(by cases h),Nat.zero_le _⟩
 go_enter func28,ntmps28;go_wp2_with fail;generalize w.alloc (.cells #[.string ⟨#[]⟩] 9)=W1 at HW0 ⊢;go_loopg [1,2] 40 (fun gh u1 u2 wr=>∃(i:Nat) (zs:List (List UInt8)),u2=I i∧i<=zs.length∧1<=zs.length∧zs.length<=24∧gh=40-i∧TsI w u1 zs wr)
 case atStart=>exact⟨0,_,rfl,by simp,by simp,by simp,rfl,HW0.o⟩
 case round=>
  clear HW0;obtain⟨i,zs,rfl,hik,hk1,Xf,hgk,hI⟩:=hrel;obtain⟨k,hk⟩:=eX (zs.length);obtain⟨pa,pc,ev,-,-⟩:=hI.row.open hk.symm;subst ev;rw[<-hk]at hik hk1 Xf;by_cases hgo:i<k∧k<21
  ·have hlt:(i:Int)<k:=by omega
   have h21:(k:Int)<21:=by omega
   have HB0:Hd (TsI w (.slice pa k pc) zs (wr.alloc (.cells #[.string ⟨#[97]⟩,.string ⟨#[98]⟩,.string ⟨#[99]⟩,.string ⟨#[100]⟩] 9))∧aG (wr.alloc (.cells #[.string ⟨#[97]⟩,.string ⟨#[98]⟩,.string ⟨#[99]⟩,.string ⟨#[100]⟩] 9)) wr.heap.size [.string ⟨#[97]⟩,.string ⟨#[98]⟩,.string ⟨#[99]⟩,.string ⟨#[100]⟩] 9∧∀q,(Value.slice pa k pc).ownBlock=some q->q<wr.heap.size):=⟨⟨hI.row.alloc _,hI.ok,hI.md.alloc _,hI.nw⟩,heap_alloc_new wr _,fun q hq=>hI.row.lt hq⟩;have hCl:=hI.md.size;have HK:=qH hk;clear hI hk;go_wp2_with fail;generalize wr.alloc (.cells #[.string ⟨#[97]⟩,.string ⟨#[98]⟩,.string ⟨#[99]⟩,.string ⟨#[100]⟩] 9)=W2 at HB0 ⊢;generalize wr.heap.size=C at HB0 hCl ⊢;generalize (Value.slice pa k pc)=V2 at HB0 ⊢;go_loopg [1,19] 4 (fun gh u1 u19 wx=>∃(j:Nat) (zs:List (List UInt8)),u19=I j∧j<=4∧zs.length=k+j∧gh=4-j∧TsI w u1 zs wx∧aG wx C [.string ⟨#[97]⟩,.string ⟨#[98]⟩,.string ⟨#[99]⟩,.string ⟨#[100]⟩] 9∧∀q,u1.ownBlock=some q->q≠C)
   case atStart=>exact⟨0,zs,rfl,by omega,HK.o.symm,rfl,HB0.o.1,HB0.o.2.1,fun q hq=>Nat.ne_of_lt (HB0.o.2.2 q hq)⟩
   case round=>
    clear HB0;obtain⟨j,zs,rfl,hj4,hzl,hgj,hI,hB,hne⟩:=hrel;by_cases hj:j<4
    ·have hji:(j:Int)<4:=by omega
     obtain⟨z,hz⟩:∃z,zs[i]?=some z:=⟨zs[i]'(by omega),bG _⟩;obtain⟨hzw,hzn⟩:=hI.ok i z hz;obtain⟨pa2,pc2,ev2,-,-⟩:=hI.row.open hzl;subst ev2;obtain⟨gv,rfl⟩:∃gv,pa2=some (J gv 0):=by
      obtain⟨g2,c2,h2,-⟩:=hI.row.form (by omega);injection h2 with h2 _;exact⟨g2,h2⟩
     obtain⟨L,hL⟩:=eX (sb (aT j));have cl:wr.cell? (J C j)=some (.string L):=by
      rw[hL]
      match j,hj with
      | 0,_=>exact hB.cell 0 rfl
      | 1,_=>exact hB.cell 1 rfl
      | 2,_=>exact hB.cell 2 rfl
      | 3,_=>exact hB.cell 3 rfl
     obtain⟨ZB,dw⟩:=eX (sb z);have cz:wr.cell? (J gv i)=some (.string ZB):=by rw[dw];exact NH.cell hI.row hz
     have hzi:(i:Int)<((k+j:Nat):Int):=by omega
     have hls:L.size=1:=by rw[hL,ai];rfl
     have hzs:ZB.size<=30:=by rw[dw,ai];omega
     have Lj:¬9223372036854775807<ZB.size+L.size:=by omega
     obtain⟨KJ,hKJ⟩:=eX (k+j);have hKl:KJ<=24:=by omega
     have hown:wr.ownsRow 0 9 1 (Jn gv KJ pc2) KJ (zs.flatMap NH.f):=by
      have h:wr.ownsRow 0 9 1 (Jn gv (k+j) pc2) zs.length (zs.flatMap NH.f):=hI.row;rw[hzl]at h;rw[hKJ];exact h
     have HL:=qH (And.intro hL (And.intro dw (And.intro hKJ (And.intro hzw (And.intro hzn hz)))));have HI:=qH hI;have HB:=qH hB;have YZ:=qH hne;have hCw:=hB.lt;rw[<-hKJ]at hzi ⊢;clear hL dw hKJ hzw hzn hz hI hB hne;go_wp2_with (at_builtin;refine wpList_append_lies _ rfl _ _ 56 rfl 0 9 i0 _ 1 16 underlying56 af hz0 hz1 hz2 rfl (by omega) (Jn gv KJ pc2) KJ (zs.flatMap NH.f) rfl (hown.alloc _) (J wr.heap.size 0) 1 1 [.string (ZB++L)] rfl rfl (World.news_of_block (cs:=#[.string (ZB++L)]) (t:=9) (fr:=(0,0)) (heap_alloc_new wr _)) (by intro u hu;simp at hu;subst hu;rfl) (by omega) (by unfold maxLen;omega) (by omega) (by simp) (wr.heap.size+1) (by simp) ?_);intro gg cap2 w7 gV hgrow hat fJ;have AY:Hd (TsI w (Jn gg (KJ+1) cap2) (zs++[z++aT j]) w7):=by
      refine⟨jq (by rw[hzl];exact HL.o.2.2.1.symm) (by rw[HL.o.1,HL.o.2.1,dm];rfl) gV,HI.o.ok.app (fun y hy=>?_),(HI.o.md.alloc _).grown hgrow (fun x hx hlt=>absurd hlt (by have:=HI.o.nw x (by rw[<-HL.o.2.2.1];exact hx);omega)),fun q hq=>?_⟩
      ·obtain rfl:y=z++aT j:=by simpa using hy
       refine⟨aIN HL.o.2.2.2.1 hj,?_⟩;have h1:=HL.o.2.2.2.2.1;rw[length_append];show z.length+1<=_;omega
      ·cases hq;rcases hat with e | e
       ·have h1:=HI.o.nw gv rfl;have h2:gv=gg:=dY e;rw[<-h2];exact h1
       ·have:=HI.o.md.size;show _<=gg;omega
     have HB7:=qH ((HB.o.alloc _).grown hgrow (fun e=>YZ.o C (by rw[<-HL.o.2.2.1];exact e.symm) rfl));have HN7:Hd (∀q,(Jn gg (KJ+1) cap2).ownBlock=some q->q≠C):=fun q hq=>by
      cases hq;rcases hat with e | e
      ·have h2:gv=gg:=dY e;rw[<-h2];exact YZ.o gv rfl
      ·show gg≠C;omega
     have hKJ:=HL.o.2.2.1;clear gV hgrow hat fJ hown cl cz;go_wp2;go_roundg (4-(j+1))
     case measure=>omega
     case rel=>exact⟨j+1,zs++[z++aT j],by go_num,by omega,by rw[length_append,hzl];rfl,rfl,AY.o,HB7.o,HN7.o⟩
    ·obtain rfl:j=4:=by omega
     have HI:=qH hI;clear hI hB hne;go_wp2;go_roundg (40-(i+1))
     case measure=>omega
     case rel=>exact⟨i+1,zs,by go_num,by omega,by omega,by omega,rfl,HI.o⟩
  ·have HI:=qH hI;have hown:wr.ownsRow 0 9 1 (.slice pa k pc) k (zs.flatMap NH.f):=by
    have h:wr.ownsRow 0 9 1 (.slice pa k pc) zs.length (zs.flatMap NH.f):=hI.row;rw[<-hk]at h;exact h
   have HK:=qH hk;clear hI hk;have hcase:¬(i:Int)<k∨((i:Int)<k∧¬(k:Int)<21):=by omega
   rcases hcase with h | ⟨h,h'⟩;all_goals
    go_wp2_with (at_builtin;refine wpList_append_lies _ rfl _ _ 56 rfl 0 9 i0 _ 1 16 underlying56 af hz0 hz1 hz2 rfl (by omega) (.slice pa k pc) k (zs.flatMap NH.f) rfl (hown.alloc _) (J wr.heap.size 0) 8 8 [.string ⟨#[97,97,97,97]⟩,.string ⟨#[97,98,97,98]⟩,.string ⟨#[98,98,98,99]⟩,.string ⟨#[99,97,98,100]⟩,.string ⟨#[100,100,100,100]⟩,.string ⟨#[97,97,97,98]⟩,.string ⟨#[99,99,99,98]⟩,.string ⟨#[98,99,98,99]⟩] rfl rfl (World.news_of_block (cs:=#[.string ⟨#[97,97,97,97]⟩,.string ⟨#[97,98,97,98]⟩,.string ⟨#[98,98,98,99]⟩,.string ⟨#[99,97,98,100]⟩,.string ⟨#[100,100,100,100]⟩,.string ⟨#[97,97,97,98]⟩,.string ⟨#[99,99,99,98]⟩,.string ⟨#[98,99,98,99]⟩]) (t:=9) (fr:=(0,0)) (heap_alloc_new wr _)) (by intro u hu;simp at hu;rcases hu with rfl | rfl | rfl | rfl | rfl | rfl | rfl | rfl <;> rfl) (by omega) (by unfold maxLen;omega) (by omega) (by simp) (wr.heap.size+1) (by simp) ?_);intro gg cap2 w7 gV hgrow hat fJ;have HR7:=qH (Row.many (E:=NH) (xs:=zs) (ys:=eight) (by rw[<-HK.o];rfl) rfl gV);have HM7:=qH ((HI.o.md.alloc _).grown hgrow (fun x hx hlt=>absurd hlt (by have:=HI.o.nw x hx;omega)));have hk:=HK.o;clear gV hgrow hat fJ hown;go_wp2;go_ret;refine⟨_,zs++eight,rfl,HR7.o,fun z hz=>?_,by rw[length_append];omega,by rw[length_append,<-hk];show k+8<=40;omega,HM7.o⟩;rcases mem_append.1 hz with hz | hz
    ·obtain⟨n,hn,e⟩:=getElem_of_mem hz;obtain⟨h1,h2⟩:=HI.o.ok n z (by rw[bG hn,e]);exact⟨h1,by omega⟩
    ·obtain⟨h1,h2⟩:=aJ9 z hz;exact⟨h1,by omega⟩
end
end Go.Proofs.YtoebidlghdidoaaGreatDoor
