import Derived.Test.YtoebidlghdidoaaGreatDoorAW
set_option maxHeartbeats 1600000
set_option maxRecDepth 100000
namespace Go.Proofs.YtoebidlghdidoaaGreatDoor
open M3 M2 Tryz List
section
open Go.RowKit
variable {b base:Nat} {cs:List Value} {α:Type} {v:M2.View} {ka kw kh kd:Value} {su:bP} {ap:M2.Apart}
def Safe(S:Nat->Prop)(w:World)(A B:Nat):Prop:=∀(g:Nat) (cs:Array Value) (T:Nat),w.heap[g]?=some (.cells cs T (0,0))->T≠A->T≠B->¬S g
section
variable {S:Nat->Prop} {w w':World} {A B:Nat}
theorem aG.safe{T:Nat}(h:aG w b cs T)(hm:Mod S w w')(hs:Safe S w A B)(h1:T≠A)(h2:T≠B):aG w' b cs T:=h.mod hm (hs b _ T h h1 h2)
theorem Row.safe{E:Enc α}{v:Value}{xs:List α}(h:Row E w v xs)(hm:Mod S w w')(hs:Safe S w A B)(h1:E.T≠A)(h2:E.T≠B):Row E w' v xs:=h.mod hm (fun g hg=>by
 rcases h.2 with ⟨rfl,_⟩ | ⟨g1,cap,cur,rfl,_,hh,_⟩
 ·cases hg
 ·have e:g1=g:=dY hg
  subst e
  exact hs g1 cur E.T hh h1 h2)
theorem VP.safe(h:VP v base ka kw kh kd w)(hm:Mod S w w')(hs:Safe S w A B)(hA:150<A)(hB:150<B)(hA2:A≠200)(hB2:B≠200):VP v base ka kw kh kd w':=⟨h.ok,h.Xa,h.n24,h.nh,h.ah.safe hm hs (show (102:Nat)≠A by omega) (show (102:Nat)≠B by omega),h.wo.safe hm hs (show (9:Nat)≠A by omega) (show (9:Nat)≠B by omega),h.hi.safe hm hs (show (200:Nat)≠A by omega) (show (200:Nat)≠B by omega),h.de.safe hm hs (show (145:Nat)≠A by omega) (show (145:Nat)≠B by omega),h.fa,h.fw,h.fh,h.fd⟩
theorem OL.safe{O:Nat}{vs va:Value}(h:OL v su ap base O ka kw kh kd vs va w)(hm:Mod S w w')(hs:Safe S w A B)(hA:150<A)(hB:150<B)(hA2:A≠200)(hB2:B≠200)(hA3:A≠251)(hB3:B≠251):OL v su ap base O ka kw kh kd vs va w':=⟨h.blk.safe hm hs (by omega) (by omega),h.vp.safe hm hs hA hB hA2 hB2,h.su.safe hm hs (show (101:Nat)≠A by omega) (show (101:Nat)≠B by omega),h.ap.safe hm hs (show (251:Nat)≠A by omega) (show (251:Nat)≠B by omega)⟩
theorem Safe.pair{E:Enc α}{v:Value}{xs:List α}(hb:aG w b cs A)(hr:Row E w v xs)(hE:E.T=B):Safe (fun k=>k=b∨v.ownBlock=some k) w A B:=by
 intro g c T hg h1 h2 e;rcases e with rfl | e
 ·have hb':w.heap[g]?=some (.cells cs.toArray A (0,0)):=hb;rw[hb']at hg;cases hg;exact h1 rfl
 ·rcases hr.2 with ⟨rfl,_⟩ | ⟨g1,cap,cur,rfl,_,hh,_⟩
  ·cases e
  ·have e:g1=g:=dY e;subst e;rw[hh]at hg;cases hg;exact h2 hE
theorem Safe.one(hb:aG w b cs A):Safe (fun k=>k=b) w A A:=by
 intro g c T hg h1 h2 e;subst e;have hb':w.heap[g]?=some (.cells cs.toArray A (0,0)):=hb;rw[hb']at hg;cases hg;exact h1 rfl
theorem Safe.row{E:Enc α}{v:Value}{xs:List α}(hr:Row E w v xs):Safe (fun k=>v.ownBlock=some k) w E.T E.T:=by
 intro g c T hg h1 h2 e;rcases hr.2 with ⟨rfl,_⟩ | ⟨g1,cap,cur,rfl,_,hh,_⟩
 ·cases e
 ·have e:g1=g:=dY e;subst e;rw[hh]at hg;cases hg;exact h1 rfl
end
theorem rX{w w':World}{row:Option Nat}(h:w.grownBy w' row):Mod (fun k=>row=some k) w w':=Mod.rH h (fun _ e=>e)
def DZ:Enc iL:=⟨161,9,fun s=>[str s.en,str (s.sd.getD 0 []),str (s.sd.getD 1 []),str (s.sd.getD 2 []),str (s.sd.getD 3 []),nat (s.nx.getD 0 0),nat (s.nx.getD 1 0),nat (s.nx.getD 2 0),nat (s.nx.getD 3 0)],fun _=>rfl⟩
theorem aJR:(prog.info? 161).map (fun i=>(i.zero,i.size,i.bytes))=some (some (.agg #[.string ⟨#[]⟩,.string ⟨#[]⟩,.string ⟨#[]⟩,.string ⟨#[]⟩,.string ⟨#[]⟩,I 0,I 0,I 0,I 0]),9,112):=by kernel_rfl
theorem aCr(en:List UInt8)(sd:List (List UInt8))(nx:List Nat)(x:List UInt8)(l:Nat)(hl:l<4)(hs:sd.length=l):DZ.f ⟨en,sd++[x],nx⟩=(DZ.f ⟨en,sd,nx⟩).set (1+l) (.string ⟨x.toArray⟩):=by
 match l,hl,sd,hs with
 | 0,_,[],_=>rfl
 | 1,_,[a],_=>rfl
 | 2,_,[a,b],_=>rfl
 | 3,_,[a,b,c],_=>rfl
theorem aCs(en:List UInt8)(sd:List (List UInt8))(nx:List Nat)(x:Nat)(l:Nat)(hl:l<4)(hs:nx.length=l):DZ.f ⟨en,sd,nx++[x]⟩=(DZ.f ⟨en,sd,nx⟩).set (5+l) (I x):=by
 match l,hl,nx,hs with
 | 0,_,[],_=>rfl
 | 1,_,[a],_=>rfl
 | 2,_,[a,b],_=>rfl
 | 3,_,[a,b,c],_=>rfl
structure SI(w:World)(v:M2.View)(su:bP)(ap:M2.Apart)(base O M:Nat)(ka kw kh kd vs va vm:Value)(met:List aK)(vt:Value)(aC:List iL)(wr:World):Prop where
 mt:aG wr M [vm] 159
 met:Row Yc wr vm met
 ol:OL v su ap base O ka kw kh kd vs va wr
 aC:Row DZ wr vt aC
 md:Mod No w wr
 fm:∀g,vm.ownBlock=some g->w.heap.size<=g
 ft:∀g,vt.ownBlock=some g->w.heap.size<=g
 oM:w.heap.size<=M
section
variable {w:World} {v:M2.View} {su:bP} {ap:M2.Apart} {base O M:Nat} {ka kw kh kd vs va vm:Value} {met:List aK} {vt:Value} {aC:List iL} {wr wr':World}
theorem SI.no(h:SI w v su ap base O M ka kw kh kd vs va vm met vt aC wr)(hm:Mod No wr wr'):SI w v su ap base O M ka kw kh kd vs va vm met vt aC wr':=⟨h.mt.mod hm (fun x=>x),h.met.no hm,h.ol.no hm,h.aC.no hm,h.md.no hm,h.fm,h.ft,h.oM⟩
theorem SI.num{LM:Value}{met':List aK}(h:SI w v su ap base O M ka kw kh kd vs va vm met vt aC wr)(hB:aG wr' M [LM] 159)(hr:Row Yc wr' LM met')(hf:aN wr vm LM)(hm:Mod (fun k=>k=M∨vm.ownBlock=some k) wr wr'):SI w v su ap base O M ka kw kh kd vs va LM met' vt aC wr':=by
 have hs:Safe (fun k=>k=M∨vm.ownBlock=some k) wr 159 155:=Safe.pair h.mt h.met rfl;refine⟨hB,hr,h.ol.safe hm hs (by decide) (by decide) (by decide) (by decide) (by decide) (by decide),h.aC.safe hm hs (by decide) (by decide),h.md.trans' hm (fun k hk e=>?_),fun g hg=>?_,h.ft,h.oM⟩
 ·have:=h.oM;rcases e with e | e
  ·omega
  ·have:=h.fm k e;omega
 ·rcases hf g hg with e | e
  ·exact h.fm g e
  ·have:=h.md.size;omega
theorem SI.side{Q:Nat}(h:SI w v su ap base O M ka kw kh kd vs va vm met vt aC wr)(hQ:aG wr Q cs 161)(hm:Mod (fun k=>k=Q) wr wr')(h0:w.heap.size<=Q)(hn:vt.ownBlock≠some Q):SI w v su ap base O M ka kw kh kd vs va vm met vt aC wr':=by
 have hs:=Safe.one hQ;exact⟨h.mt.safe hm hs (by decide) (by decide),h.met.safe hm hs (by decide) (by decide),h.ol.safe hm hs (by decide) (by decide) (by decide) (by decide) (by decide) (by decide),h.aC.mod hm (fun g hg e=>hn (by rw[hg,e])),h.md.trans' hm (fun k hk e=>by omega),h.fm,h.ft,h.oM⟩
theorem SI.more{v2:Value}{s2:List iL}(h:SI w v su ap base O M ka kw kh kd vs va vm met vt aC wr)(hg:wr.grownBy wr' vt.ownBlock)(hrow:Row DZ wr' v2 s2)(hf:aN wr vt v2):SI w v su ap base O M ka kw kh kd vs va vm met v2 s2 wr':=by
 have hm:=rX hg;have hs:Safe (fun k=>vt.ownBlock=some k) wr 161 161:=Safe.row h.aC;refine⟨h.mt.safe hm hs (by decide) (by decide),h.met.safe hm hs (by decide) (by decide),h.ol.safe hm hs (by decide) (by decide) (by decide) (by decide) (by decide) (by decide),hrow,h.md.trans' hm (fun k hk e=>?_),h.fm,fun g hg=>?_,h.oM⟩
 ·have:=h.ft k e;omega
 ·rcases hf g hg with e | e
  ·exact h.ft g e
  ·have:=h.md.size;omega
end
theorem aAK{b:aK}{n:Nat}{sd:List (List UInt8)}{nx:List Nat}{met:List aK}{R:List (List UInt8) × List Nat × List aK}(h:Qw v su ap b (n+1) sd nx met=some R):∃said nb,M3.follow v su ap b (3-n)=some (said,nb)∧Qw v su ap b n (sd++[said]) (nx++[fU met nb 0]) (if fU met nb 0=met.length then met++[nb] else met)=some R:=by
 rw[Qw]at h;split at h
 ·cases h
 ·rename_i said nb hf;exact⟨said,nb,hf,h⟩
end
section
open Go.RowKit
attribute [local go_sem ↓] Go.wp_at_zero Go.wp_at_succ aIP aII aIJ aIH
attribute [local go_sem] Gy Pq Pv Px lM pO mF rU zx kG nH pU jg Dt aAI Gw
def aCX(r:Option (List iL))(w:World)(e:Ending)(w':World):Prop:=Mod No w w'∧match r with
 | none=>e=.returned (.tuple #[aH,.bool false])
 | some aC=>∃vt,e=.returned (.tuple #[vt,.bool true])∧Row DZ w' vt aC∧(∀g,vt.ownBlock=some g->w.heap.size<=g)
theorem QR(w:World)(v:M2.View)(base:Nat)(ka kw kh kd:Value)(hv:VP v base ka kw kh kd w)(limit:Nat)(hlim:limit<=1000){r:Option (List iL)}(hM:M3.states v limit=some r):J1 33 #[.agg #[ka,kw,kh,kd],I limit] w fun e w'=>aCX r w e w':=by
 obtain⟨o,b,ho,hb,hg⟩:∃o b,oU v=some o∧jk o.su 0 bJ=some b∧dD o.v o.su o.ap limit 1000 0 [b] []=some r:=by
  unfold M3.states at hM;split at hM
  ·cases hM
  ·rename_i o ho;split at hM
   ·cases hM
   ·rename_i b hb;exact⟨o,b,ho,hb,hM⟩
 obtain⟨n,hn⟩:=eX v.k.ahead.length;have aIU:n<=24:=by rw[hn];exact hv.n24
 have hn0:0<n:=by rw[hn,<-hv.nh];exact hv.Xa.pos
 obtain⟨b1,n1,c1,e1⟩:=hv.ah.sl;obtain⟨b2,n2,c2,e2⟩:=hv.wo.sl;obtain⟨b3,n3,c3,e3⟩:=hv.hi.sl;obtain⟨b4,n4,c4,e4⟩:=hv.de.sl;have HV:=qH hv;have HE:=qH (a4 e1 e2 e3 e4);have HOB:=qH (a2 ho hb);have HG:=qH hg;have HN:=qH hn;clear hM hv ho hb hg hn;rw[e1,e2,e3,e4];go_enter func33,ntmps33;go_wp2_with fail;have h22:=QN _ v base ka kw kh kd (HV.o.no ((Mod.refl _ _).alloc (.cells #[.slice b1 n1 c1,.slice b2 n2 c2,.slice b3 n3 c3,.slice b4 n4 c4] 86))) HOB.o.1;rw[HE.o.1,HE.o.2.1,HE.o.2.2.1,HE.o.2.2.2]at h22;refine h22.mono ?_;rintro e w1 ⟨m1,hov,vs,va,rfl,hv1,hs1,ha1,hS,hA⟩;obtain⟨gs,cs,e5,-,-⟩:=hs1.form (by rw[hS.len];have:=HN.o;omega);rw[hS.len,<-HN.o]at e5;obtain⟨ga,ca,e6,-,-⟩:=ha1.form (by rw[hA.len];have:=HN.o;omega);rw[hA.len,<-HN.o]at e6;subst e5 e6;have hm1:Mod No w w1:=((Mod.refl _ _).alloc _).no m1;have DX:Hd (OL v o.su o.ap base w1.heap.size (.slice b1 n1 c1) (.slice b2 n2 c2) (.slice b3 n3 c3) (.slice b4 n4 c4) (Jn gs n cs) (Jn ga n ca) (w1.alloc (.cells #[.slice b1 n1 c1,.slice b2 n2 c2,.slice b3 n3 c3,.slice b4 n4 c4,Jn gs n cs,Jn ga n ca] 150))∧Mod No w (w1.alloc (.cells #[.slice b1 n1 c1,.slice b2 n2 c2,.slice b3 n3 c3,.slice b4 n4 c4,Jn gs n cs,Jn ga n ca] 150))):=by
  have m2:Mod No w1 (w1.alloc (.cells #[.slice b1 n1 c1,.slice b2 n2 c2,.slice b3 n3 c3,.slice b4 n4 c4,Jn gs n cs,Jn ga n ca] 150)):=(Mod.refl _ _).alloc _;exact⟨⟨heap_alloc_new w1 _,hv1.no m2,hs1.no m2,ha1.no m2⟩,hm1.no m2⟩
 have HSA:Hd (Dq o.su n∧xU o.ap n∧o.v=v):=⟨by rw[HN.o];exact hS,by rw[HN.o];exact hA,hov⟩;go_wp2_with fail;generalize w1.alloc (.cells #[.slice b1 n1 c1,.slice b2 n2 c2,.slice b3 n3 c3,.slice b4 n4 c4,Jn gs n cs,Jn ga n ca] 150)=w2 at DX ⊢;generalize w1.heap.size=O at DX ⊢;have h23:=Tt w2 O gs n cs _ _ _ _ _ o.su DX.o.1.blk DX.o.1.su HSA.o.1 aIU HOB.o.2;refine h23.mono ?_;rintro e w3 ⟨rfl,m3,Xg⟩;have YX:=qH (a2 (DX.o.1.no m3) (DX.o.2.no m3));have HBO:=qH Xg;go_wp2_with fail;have HI0:Hd (SI w v o.su o.ap base O (w3.heap.size+1) (.slice b1 n1 c1) (.slice b2 n2 c2) (.slice b3 n3 c3) (.slice b4 n4 c4) (Jn gs n cs) (Jn ga n ca) (Jn w3.heap.size 1 1) [b] aH [] ((w3.alloc (.cells (bc b).toArray 155)).alloc (.cells #[Jn w3.heap.size 1 1] 159))):=by
  have m4:Mod No w3 ((w3.alloc (.cells (bc b).toArray 155)).alloc (.cells #[Jn w3.heap.size 1 1] 159)):=((Mod.refl _ _).alloc _).alloc _;have hsz:=YX.o.2.size;refine⟨fE w3 _ _,?_,YX.o.1.no m4,Row.nil _ _,YX.o.2.no m4,fun g hg=>(by cases hg;exact hsz),fun g hg=>(by cases hg),by omega⟩;refine Row.of_block (E:=Yc) (xs:=[b]) ?_ (by simp;unfold maxLen;omega);have:[b].flatMap Yc.f=bc b:=by simp[Yc]
  rw[this];exact gq w3 _ _
 generalize (w3.alloc (.cells (bc b).toArray 155)).alloc (.cells #[Jn w3.heap.size 1 1] 159)=W4 at HI0 ⊢;generalize w3.heap.size+1=M at HI0 ⊢;generalize (Jn w3.heap.size 1 1)=vm0 at HI0;generalize hKA:(Value.slice b1 n1 c1)=KA at HI0;generalize hKB:(Value.slice b2 n2 c2)=KB at HI0;generalize hKC:(Value.slice b3 n3 c3)=KC at HI0;generalize hKD:(Value.slice b4 n4 c4)=KD at HI0;go_loopg [8,9] 1000 (fun gh v8 v9 wr=>∃(i:Nat) (met:List aK) (aC:List iL) (vm:Value),v9=I i∧(∀x∈met,qW x)∧met.length<=limit+4∧aC.length=i∧dD o.v o.su o.ap limit gh i met aC=some r∧SI w v o.su o.ap base O M KA KB KC KD (Jn gs n cs) (Jn ga n ca) vm met v8 aC wr)
 case atStart=>exact⟨0,[b],[],vm0,rfl,fun x hx=>(by simp at hx;rw[hx];exact HBO.o),by simp,rfl,HG.o,HI0.o⟩
 case round=>
  obtain⟨i,met,aC,vm,rfl,hbs,hml,hsl,hgo,hI⟩:=hrel;have HI:=qH hI;have HBS:=qH hbs;obtain⟨mn,hmn⟩:=eX met.length;obtain⟨am,cm,hvm,-,-⟩:=hI.met.open hmn.symm;obtain⟨at',ct,hvt,-,-⟩:=hI.aC.open hsl;have m0:=hI.mt.cell 0 rfl;rw[hvm]at m0
  match gk,hgo with
  | 0,hgo=>cases hgo
  | g+1,hgo=>
   rw[dD]at hgo
   cases hbi:met[i]? with
   | none=>
    rw[hbi]at hgo;have hr:=dY hgo;subst hr;have hii:¬(i:Int)<mn:=by have:=List.getElem?_eq_none_iff.1 hbi;omega
    have HVT:=qH hvt;go_wp2;refine bodyPost_ret (v:=.tuple #[.slice at' i ct,.bool true]) (by simp[results,results33,go_sem]) rfl ⟨HI.o.md,_,rfl,?_,?_⟩
    ·have h:=HI.o.aC;rw[HVT.o]at h;exact h
    ·have h:=HI.o.ft;rw[HVT.o]at h;exact h
   | some bi=>
    rw[hbi]at hgo
    dsimp only at hgo
    have hil:i<mn:=by have:=(bU hbi).1;omega
    have hii:(i:Int)<mn:=by omega
    by_cases hlm:limit<met.length
    ·rw[aP hlm]at hgo;have hr:=dY hgo;subst hr;have yZ:(limit:Int)<mn:=by omega
     go_wp2;exact bodyPost_ret (v:=.tuple #[aH,.bool false]) (by simp[results,results33,go_sem]) rfl ⟨HI.o.md,rfl⟩
    ·rw[aU hlm]at hgo;obtain⟨en,NC,nx',met',hen,hst,hnext⟩:∃en NC nx' met',bi.held[0]?=some en∧Qw o.v o.su o.ap bi 4 [] [] met=some (NC,nx',met')∧dD o.v o.su o.ap limit g (i+1) met' (aC++[⟨en,NC,nx'⟩])=some r:=by
      split at hgo
      ·rename_i en sd nx m2 h1 h2;exact⟨en,sd,nx,m2,h1,h2,hgo⟩
      ·cases hgo
     have Xg:=hbs bi (iI hbi);obtain⟨gm,hgm⟩:∃g,am=some (J g 0):=by
      obtain⟨g2,c2,h2,-⟩:=hI.met.form (by omega);rw[hvm]at h2;injection h2 with h2 _;exact⟨g2,h2⟩
     subst hgm;have hrow:=hI.met;rw[hvm]at hrow;have q1:=dF (hrow.range hbi);rw[Yc.len]at q1;change iQ wr gm (i*48) 48=bc bi∧rQ wr gm (i*48) 48=true at q1;obtain⟨q1,q3⟩:=q1;obtain⟨EN,hEN⟩:=eX (⟨en.toArray⟩:ByteArray);have ch:(wr.alloc (.cells (bc bi).toArray 155)).cell? (J wr.heap.size 24)=some (.string EN):=by rw[hEN];exact aG.cell (aG.new wr (bc bi) 155) 24 (xE Xg hen)
     have yZ:¬(limit:Int)<mn:=by omega
     have HST:=qH hst;have pV:=qH hnext;have HBI:=qH Xg;have HI1:Hd (SI w v o.su o.ap base O M KA KB KC KD (Jn gs n cs) (Jn ga n ca) vm met u8 aC ((wr.alloc (.cells (bc bi).toArray 155)).alloc (.cells #[.string EN,.string ⟨#[]⟩,.string ⟨#[]⟩,.string ⟨#[]⟩,.string ⟨#[]⟩,I 0,I 0,I 0,I 0] 161))∧aG ((wr.alloc (.cells (bc bi).toArray 155)).alloc (.cells #[.string EN,.string ⟨#[]⟩,.string ⟨#[]⟩,.string ⟨#[]⟩,.string ⟨#[]⟩,I 0,I 0,I 0,I 0] 161)) wr.heap.size (bc bi) 155∧aG ((wr.alloc (.cells (bc bi).toArray 155)).alloc (.cells #[.string EN,.string ⟨#[]⟩,.string ⟨#[]⟩,.string ⟨#[]⟩,.string ⟨#[]⟩,I 0,I 0,I 0,I 0] 161)) (wr.heap.size+1) (DZ.f ⟨en,[],[]⟩) 161):=by
      refine⟨hI.no (((Mod.refl _ _).alloc _).alloc _),gq wr _ _,?_⟩;rw[hEN];exact fE wr _ _
     have hvT:vm.ownBlock≠some wr.heap.size:=fun e=>by have:=hI.met.lt e;omega
     have htQ:u8.ownBlock≠some (wr.heap.size+1):=fun e=>by have:=hI.aC.lt e;omega
     have XQ:=hI.md.size;have HVT:=qH (a2 hvt hsl);have aH4:met.length<=limit:=by omega
     have aGR:0<met.length:=by omega
     clear hI hbs hgo hvm hbi hrow hst hnext Xg hen hEN HI hmn hsl hml hlm;go_wp2_with fail;generalize (wr.alloc (.cells (bc bi).toArray 155)).alloc (.cells #[.string EN,.string ⟨#[]⟩,.string ⟨#[]⟩,.string ⟨#[]⟩,.string ⟨#[]⟩,I 0,I 0,I 0,I 0] 161)=W5 at HI1 ⊢;obtain⟨Q,hQ⟩:=eX (wr.heap.size+1);rw[<-hQ]at HI1 htQ ⊢;have hQw:w.heap.size<=Q:=by omega
     clear hQ;generalize wr.heap.size=T at HI1 hvT XQ ⊢;go_loopg [41] 4 (fun gh v41 wx=>∃(l:Nat) (sd:List (List UInt8)) (nx:List Nat) (m2:List aK) (Y7:Value),l<=4∧gh=4-l∧v41=I l∧sd.length=l∧nx.length=l∧(∀x∈m2,qW x)∧0<m2.length∧m2.length<=limit+l∧Y7.ownBlock≠some T∧Qw o.v o.su o.ap bi gh sd nx m2=some (NC,nx',met')∧SI w v o.su o.ap base O M KA KB KC KD (Jn gs n cs) (Jn ga n ca) Y7 m2 u8 aC wx∧aG wx T (bc bi) 155∧aG wx Q (DZ.f ⟨en,sd,nx⟩) 161)
     case atStart=>exact⟨0,[],[],met,vm,by omega,rfl,rfl,rfl,rfl,HBS.o,aGR,by omega,hvT,HST.o,HI1.o.1,HI1.o.2.1,HI1.o.2.2⟩
     case round=>
      obtain⟨l,sd,nx,m2,Y7,hl4,hgl,rfl,aGS,aGT,hbs,hm0,hml,aFw,hst,hI,hT,hQ⟩:=hrel;have HI:=qH hI;have HT:=qH hT;have HQ:=qH hQ;have HBS:=qH hbs;have HL:=qH (a2 aGS aGT)
      match gk,hgl,hst with
      | 0,hgl,hst=>
       obtain rfl:l=4:=by omega
       have HEQ:Hd (sd=NC∧nx=nx'∧m2=met'):=by
        have h:some (sd,nx,m2)=some (NC,nx',met'):=hst;cases h;exact⟨rfl,rfl,rfl⟩
       obtain⟨i0,af,hz0,hz1,hz2⟩:=info_parts aJR;obtain⟨A0,A1,A2,A3,A4,A5,A6,A7,A8,Tz⟩:∃A0 A1 A2 A3 A4 A5 A6 A7 A8,DZ.f ⟨en,sd,nx⟩=[.string A0,.string A1,.string A2,.string A3,.string A4,I A5,I A6,I A7,I A8]:=⟨_,_,_,_,_,_,_,_,_,rfl⟩;rw[Tz]at hQ;have q0:=hQ.cell 0 rfl;have q1:=hQ.cell 1 rfl;have q2:=hQ.cell 2 rfl;have q3:=hQ.cell 3 rfl;have q4:=hQ.cell 4 rfl;have q5:=hQ.cell 5 rfl;have q6:=hQ.cell 6 rfl;have q7:=hQ.cell 7 rfl;have q8:=hQ.cell 8 rfl;have hown:wr.ownsRow 0 161 9 (.slice at' i ct) i (aC.flatMap DZ.f):=by
        have h2:wr.ownsRow 0 161 9 u8 aC.length (aC.flatMap DZ.f):=hI.aC
        rwa [HVT.o.2,HVT.o.1]at h2
       have h44:¬((4:Nat):Int)<4:=by omega
       have HAE:=qH Tz;have hi2:i<=2000:=by omega
       clear hI hT hQ hbs hst hgl hl4 Tz;go_wp2_with (at_builtin;refine wpList_append_lies _ rfl _ _ 89 rfl 0 161 i0 _ 9 112 underlying89 af hz0 hz1 hz2 rfl (by omega) (.slice at' i ct) i (aC.flatMap DZ.f) rfl (hown.alloc _) (J wr.heap.size 0) 1 1 [.string A0,.string A1,.string A2,.string A3,.string A4,I A5,I A6,I A7,I A8] rfl rfl (World.news_of_block (cs:=#[.string A0,.string A1,.string A2,.string A3,.string A4,I A5,I A6,I A7,I A8]) (t:=161) (fr:=(0,0)) (heap_alloc_new wr _)) (by intro u hu;simp at hu;rcases hu with rfl | rfl | rfl | rfl | rfl | rfl | rfl | rfl | rfl <;> rfl) (by omega) (by unfold maxLen;omega) (by omega) (by simp) (wr.heap.size+1) (by simp) ?_);intro gg cap2 w7 gV hgrow hat fJ;have hI7:=HI.o.no ((Mod.refl _ _).alloc (.cells #[.string A0,.string A1,.string A2,.string A3,.string A4,I A5,I A6,I A7,I A8] 161));have vY:=jq HVT.o.2 HAE.o.symm gV;have Cb:aN (wr.alloc (.cells #[.string A0,.string A1,.string A2,.string A3,.string A4,I A5,I A6,I A7,I A8] 161)) u8 (Jn gg (i+1) cap2):=gW (H:=wr.heap.size+1) (by rw[HVT.o.1];exact hat) (by simp);have gU:=qH (hI7.more (by rw[HVT.o.1];exact hgrow) vY Cb);go_wp2;go_roundg g
       case measure=>omega
       case rel=>exact⟨i+1,m2,aC++[⟨en,sd,nx⟩],Y7,by go_num,HBS.o,hml,by simp[HVT.o.2],by rw[HEQ.o.1,HEQ.o.2.1,HEQ.o.2.2];exact pV.o,gU.o⟩
      | g'+1,hgl,hst=>
       obtain⟨sdl,nb,hfo,hst2⟩:=aAK hst;obtain⟨L,hLe⟩:=eX (3-g');obtain rfl:l=L:=by omega
       rw[<-hLe]at hfo;have hl:l<4:=by omega
       have WR:=Tv wr v o.su o.ap base O KA KB KC KD gs ga n cs ca hI.ol HN.o hn0 HSA.o.1 HSA.o.2.1 bi HBI.o l hl (by rw[HSA.o.2.2]at hfo;exact hfo);have q1:=dF hT.range;rw[jg]at q1;obtain⟨q1,q3⟩:=q1;obtain⟨SD,hSD⟩:=eX (⟨sdl.toArray⟩:ByteArray);rw[<-hSD]at WR;have HSD:=qH hSD;have aCt:=qH hst2;have yZ:(l:Int)<4:=by omega
       have hTQ:=hT.diff hQ (by decide);clear hI hT hQ hbs hst hst2 hfo hLe hSD;go_wp2_with fail;refine WR.mono ?_;rintro e w5 ⟨rfl,m5,hbn⟩;have Ac:=HQ.o.mod m5 (fun x=>x);have hI5:=HI.o.no m5;have hT5:=HT.o.mod m5 (fun x=>x);have hQ6:aG (w5.alloc (.cells (bc nb).toArray 155)) Q (DZ.f ⟨en,sd,nx⟩) 161:=Ac.alloc _;have LZ:SI w v o.su o.ap base O M KA KB KC KD (Jn gs n cs) (Jn ga n ca) Y7 m2 u8 aC (w5.alloc (.cells (bc nb).toArray 155)):=hI5.no ((Mod.refl _ _).alloc _);have hT6:aG (w5.alloc (.cells (bc nb).toArray 155)) T (bc bi) 155:=hT5.alloc _;have hN6:aG (w5.alloc (.cells (bc nb).toArray 155)) w5.heap.size (bc nb) 155:=aG.new w5 (bc nb) 155;obtain⟨u,hu⟩:∃u,(DZ.f ⟨en,sd,nx⟩)[1+l]?=some u:=⟨(DZ.f ⟨en,sd,nx⟩)[1+l]'(by rw[DZ.len];show 1+l<9;omega),bG _⟩;have cu:=hQ6.cell (1+l) hu;have fu:=hQ6.free (1+l);have sH:Mod (fun k=>k=Q) (w5.alloc (.cells (bc nb).toArray 155)) ((w5.alloc (.cells (bc nb).toArray 155)).setCell (J Q (1+l)) (.string SD)):=(Mod.refl (fun k=>k=Q) _).setCell (a:=(J Q (1+l))) (fun _=>rfl) _;have hQ7:aG ((w5.alloc (.cells (bc nb).toArray 155)).setCell (J Q (1+l)) (.string SD)) Q (DZ.f ⟨en,sd++[sdl],nx⟩) 161:=by
        rw[aCr en sd nx sdl l hl HL.o.1,HSD.o];exact hQ6.set (1+l) _
       have hI7:=LZ.side hQ6 sH hQw htQ;have hT7:=hT6.mod sH hTQ;have hN7:=hN6.mod sH (fun e=>hN6.diff hQ6 (by decide) e);have q5:=dF hN7.range;rw[jg]at q5;obtain⟨q5,q6⟩:=q5;have hbz:=HBS.o;have h25:=QM _ M Y7 m2 nb hI7.mt hI7.met hbz hbn hm0 (by omega);have hvN:Y7.ownBlock≠some w5.heap.size:=fun e=>by have:=hI5.met.lt e;omega
       have HX7:=qH (a4 hQ7 hI7 hT7 hbn);go_wp2_with fail;refine h25.mono ?_;rintro e w8 ⟨rfl,vm3,hB8,hr8,Qs,Jm⟩;have hI8:=HX7.o.2.1.num hB8 hr8 Qs Jm;have hQ8:=HX7.o.1.safe Jm (Safe.pair HX7.o.2.1.mt HX7.o.2.1.met rfl) (by decide) (by decide);have hT8:aG w8 T (bc bi) 155:=HX7.o.2.2.1.mod Jm (by
        rintro(e | e)
        ·exact HX7.o.2.2.1.diff HX7.o.2.1.mt (by decide) e
        ·exact aFw e)
       have aGU:vm3.ownBlock≠some T:=fun e=>by
        rcases Qs T e with h | h
        ·exact aFw h
        ·have:=HX7.o.2.2.1.lt;omega
       obtain⟨F,hF⟩:=eX (fU m2 nb 0);obtain⟨m3,Ae⟩:∃m3,m3=if F=m2.length then m2++[nb] else m2:=⟨_,rfl⟩
       rw[<-hF,<-Ae]at hI8;rw[<-hF]at hr8;have aGV:Hd (Qw o.v o.su o.ap bi g' (sd++[sdl]) (nx++[F]) m3=some (NC,nx',met')):=by
        have h:=aCt.o;rw[<-hF,<-Ae]at h;exact h
       have Aa:Hd ((∀x∈m3,qW x)∧0<m3.length∧m3.length<=limit+(l+1)):=by
        rw[Ae];split
        ·refine⟨fun x hx=>?_,by simp,by simp;omega⟩;rcases mem_append.1 hx with h | h
         ·exact HBS.o x h
         ·rw[mem_singleton.1 h];exact HX7.o.2.2.2
        ·exact⟨HBS.o,hm0,by omega⟩
       rw[<-hF];obtain⟨u2,hu2⟩:∃u,(DZ.f ⟨en,sd++[sdl],nx⟩)[5+l]?=some u:=⟨(DZ.f ⟨en,sd++[sdl],nx⟩)[5+l]'(by rw[DZ.len];show 5+l<9;omega),bG _⟩;have cu2:=hQ8.cell (5+l) hu2;have fu2:=hQ8.free (5+l);have DY:Mod (fun k=>k=Q) w8 (w8.setCell (J Q (5+l)) (I F)):=(Mod.refl (fun k=>k=Q) _).setCell (a:=(J Q (5+l))) (fun _=>rfl) _;have HQ9:Hd (aG (w8.setCell (J Q (5+l)) (I F)) Q (DZ.f ⟨en,sd++[sdl],nx++[F]⟩) 161):=qH <| by
        rw[aCs en (sd++[sdl]) nx F l hl HL.o.2];exact hQ8.set (5+l) _
       have HI9:=qH (a2 (hI8.side hQ8 DY hQw htQ) (hT8.mod DY hTQ));clear h25 hB8 hr8 Qs Jm hI8 hQ8 hT8 hF Ae hu2 DY HX7 aCt q5 q6 cu fu;go_wp2;go_roundg g'
       case measure=>omega
       case rel=>exact⟨l+1,_,_,m3,vm3,by omega,by omega,by go_num,by simp[HL.o.1],by simp[HL.o.2],Aa.o.1,Aa.o.2.1,Aa.o.2.2,aGU,aGV.o,HI9.o.1,HI9.o.2,HQ9.o⟩
end
section
open Go.RowKit
attribute [local go_sem ↓] Go.wp_at_zero Go.wp_at_succ
variable {w7 w:World} {v2:Value} {s2:List M2.Stp} {k n fr l x cap i:Nat} {ps:List M2.Pair} {ns:List Nat} {p:M2.Pair} {sa sb:List UInt8 × Nat} {rs:List aI.R4} {r:aI.R4} {g R:M3.Gr} {xs:List Int}
def PaE:Enc M2.Pair:=⟨214,4,fun p=>[I p.x,I p.s,I p.y,I p.t],fun _=>rfl⟩
def SpE:Enc M2.Stp:=⟨225,5,fun s=>[I s.fr,I s.tt,I s.l,.string ⟨s.s0.toArray⟩,.string ⟨s.s1.toArray⟩],fun _=>rfl⟩
theorem aJS:(prog.info? 214).map (fun i=>(i.zero,i.size,i.bytes))=some (some (.agg #[I 0,I 0,I 0,I 0]),4,32):=by kernel_rfl
theorem aJT:(prog.info? 225).map (fun i=>(i.zero,i.size,i.bytes))=some (some (.agg #[I 0,I 0,I 0,.string ⟨#[]⟩,.string ⟨#[]⟩]),5,56):=by kernel_rfl
structure NG(v:M2.View)(base G:Nat)(ka kw kh kd vp c5 vn vs c8 c9:Value)(pairs:List M2.Pair)(nums:List Nat)(steps:List M2.Stp)(w:World):Prop where
 blk:aG w G [ka,kw,kh,kd,vp,c5,vn,vs,c8,c9] 168
 vw:VP v base ka kw kh kd w
 pr:Row PaE w vp pairs
 nu:Row dh w vn nums
 sp:Row SpE w vs steps
section
variable {v:M2.View} {base G:Nat} {ka kw kh kd vp c5 vn vs c8 c9:Value} {pairs:List M2.Pair} {nums:List Nat} {steps:List M2.Stp} {w w':World}
theorem NG.no(h:NG v base G ka kw kh kd vp c5 vn vs c8 c9 pairs nums steps w)(hm:Mod No w w'):NG v base G ka kw kh kd vp c5 vn vs c8 c9 pairs nums steps w':=⟨h.blk.mod hm (fun x=>x),h.vw.no hm,h.pr.no hm,h.nu.no hm,h.sp.no hm⟩
theorem VP.far{S:Nat->Prop}{A B:Nat}(h:VP v base ka kw kh kd w)(hm:Mod S w w')(hs:Safe S w A B)(h1:A≠102∧A≠9∧A≠200∧A≠145)(h2:B≠102∧B≠9∧B≠200∧B≠145):VP v base ka kw kh kd w':=⟨h.ok,h.Xa,h.n24,h.nh,h.ah.safe hm hs (show (102:Nat)≠A by omega) (show (102:Nat)≠B by omega),h.wo.safe hm hs (show (9:Nat)≠A by omega) (show (9:Nat)≠B by omega),h.hi.safe hm hs (show (200:Nat)≠A by omega) (show (200:Nat)≠B by omega),h.de.safe hm hs (show (145:Nat)≠A by omega) (show (145:Nat)≠B by omega),h.fa,h.fw,h.fh,h.fd⟩
theorem NG.aFx{p2:List M2.Pair}(h:NG v base G ka kw kh kd vp c5 vn vs c8 c9 pairs nums steps w)(hg:w.grownBy w7 vp.ownBlock)(hrow:Row PaE w7 v2 p2):NG v base G ka kw kh kd v2 c5 vn vs c8 c9 p2 nums steps (w7.setCell (J G 4) v2):=by
 have hm:=rX hg;have hs:Safe (fun k=>vp.ownBlock=some k) w 214 214:=Safe.row h.pr;have hB:=h.blk.safe hm hs (by decide) (by decide);have hm2:Mod (fun k=>k=G) w7 (w7.setCell (J G 4) v2):=(Mod.refl (fun k=>k=G) _).setCell (a:=J G 4) (fun _=>rfl) _;have hs2:=Safe.one hB;exact⟨hB.set 4 v2,(h.vw.far hm hs (by decide) (by decide)).far hm2 hs2 (by decide) (by decide),hrow.safe hm2 hs2 (by decide) (by decide),(h.nu.safe hm hs (by decide) (by decide)).safe hm2 hs2 (by decide) (by decide),(h.sp.safe hm hs (by decide) (by decide)).safe hm2 hs2 (by decide) (by decide)⟩
theorem NG.aFy(h:NG v base G ka kw kh kd vp c5 vn vs c8 c9 pairs nums steps w)(hg:w.grownBy w7 vs.ownBlock)(hrow:Row SpE w7 v2 s2):NG v base G ka kw kh kd vp c5 vn v2 c8 c9 pairs nums s2 (w7.setCell (J G 7) v2):=by
 have hm:=rX hg;have hs:Safe (fun k=>vs.ownBlock=some k) w 225 225:=Safe.row h.sp;have hB:=h.blk.safe hm hs (by decide) (by decide);have hm2:Mod (fun k=>k=G) w7 (w7.setCell (J G 7) v2):=(Mod.refl (fun k=>k=G) _).setCell (a:=J G 7) (fun _=>rfl) _;have hs2:=Safe.one hB;exact⟨hB.set 7 v2,(h.vw.far hm hs (by decide) (by decide)).far hm2 hs2 (by decide) (by decide),(h.pr.safe hm hs (by decide) (by decide)).safe hm2 hs2 (by decide) (by decide),(h.nu.safe hm hs (by decide) (by decide)).safe hm2 hs2 (by decide) (by decide),hrow.safe hm2 hs2 (by decide) (by decide)⟩
end
def Nu(G:Nat)(vp vn:Value):Nat->Prop:=fun k=>k=G∨vp.ownBlock=some k∨vn.ownBlock=some k
theorem QS(w:World)(v:M2.View)(base G:Nat)(ka kw kh kd vp c5 vn vs c8 c9:Value)(pairs:List M2.Pair)(nums:List Nat)(steps:List M2.Stp)(h:NG v base G ka kw kh kd vp c5 vn vs c8 c9 pairs nums steps w)(p:M2.Pair)(hp:p.x<24∧p.s<4∧p.y<24∧p.t<4)(hpl:pairs.length<=100000)(hnl:nums.length<=100000)(hnv:∀u∈nums,u<=1000000){pairs':List M2.Pair}{aCY:List Nat}(hM:oZ v.k.ahead.length pairs nums p=some (k,pairs',aCY)):J1 97 #[Jx G 0,.agg #[I p.x,I p.s,I p.y,I p.t]] w fun e w'=>e=.returned (I k)∧∃Dl,NG v base G ka kw kh kd Dl c5 vn vs c8 c9 pairs' aCY steps w'∧aN w vp Dl∧Mod (Nu G vp vn) w w':=by
 obtain⟨i0,af,hz0,hz1,hz2⟩:=info_parts aJS;obtain⟨n,hn⟩:=eX v.k.ahead.length;rw[<-hn]at hM;have aIU:n<=24:=by rw[hn];exact h.vw.n24
 obtain⟨a1,c1,e1,-,-⟩:=h.vw.ah.open hn.symm;unfold oZ at hM;obtain⟨P,hP⟩:=eX (M3.placeOf n p);rw[<-hP]at hM
 cases hu:nums[P]? with
 | none=>rw[hu]at hM;cases hM
 | some u=>
  rw[hu]at hM;have hxl:=(bU hu).1;have hub:=hnv u (iI hu);obtain⟨gn,LP,hvn,hgn,hncap⟩:=h.nu.form (by omega);obtain⟨N,hN⟩:=eX nums.length;rw[<-hN]at hvn hncap hxl hnl;subst hvn;obtain⟨x,s,y,t⟩:=p;simp only at hp;obtain⟨XM,hXM⟩:=eX ((x*4+s)*(n*4));have hPv:P=XM+y*4+t:=by rw[hP,hXM];rfl
  have aH5:((x:Int)*4+(s:Int))*((n:Int)*4)=(XM:Int):=by rw[hXM];simp
  have aH6:XM<=100000:=by omega
  have UA:=qH (a2 hn hN);clear hn hN;have HI:=qH h;have g0:=h.blk.aS 0 rfl;rw[e1]at g0;have g6:=h.blk.aS 6 rfl;have aH7:=h.blk.lt;have aEd:¬G=w.heap.size:=by omega
  have cP:=fun o=>dh.cell (h.nu.alloc o) hu
  have hPi:(XM:Int)+(y:Int)*4+(t:Int)=P:=by omega
  have hPn:(P:Int)<N:=by omega
  have aH8:(0:Int)<=(P:Int):=by omega
  have hgG:gn≠G:=fun e=>h.blk.apart h.nu (by decide) (by rw[<-e];rfl)
  have hgw:¬gn=w.heap.size:=by omega
  have HNU:=qH hu
  match u,hM with
  | u+1,hM=>
   simp only[Option.some.injEq,Prod.mk.injEq]at hM;obtain⟨rfl,rfl,rfl⟩:=hM;have hne:(((u:Int)+1)==0)=false:=by rw[beq_eq_false_iff_ne];omega
   clear h hu hnv hXM hP e1 af hz0 hz1 hz2 hPv;have hp1:=hp.1;have hp2:=hp.2.1;have hp3:=hp.2.2.1;have hp4:=hp.2.2.2;go_enter func97,ntmps97;go_wp2;go_ret;exact⟨bQ (by omega),vp,HI.o.no ((Mod.refl _ _).alloc _),aN.refl _ _,(Mod.refl _ _).alloc _⟩
  | 0,hM=>
   simp only[Option.some.injEq,Prod.mk.injEq]at hM;obtain⟨rfl,rfl,rfl⟩:=hM;obtain⟨L,hL⟩:=eX pairs.length;obtain⟨pa,pc,hvp,-,hown⟩:=h.pr.open hL.symm;have hown:w.ownsRow 0 214 4 (.slice pa L pc) L (pairs.flatMap PaE.f):=hown;rw[<-hL]at hpl ⊢;have HVP:=qH (a2 hvp hL.symm);have HW1:Hd (NG v base G ka kw kh kd vp c5 (.slice (some (J gn 0)) N LP) vs c8 c9 pairs nums steps (w.alloc (.cells #[I x,I s,I y,I t] 214))∧aG (w.alloc (.cells #[I x,I s,I y,I t] 214)) w.heap.size [I x,I s,I y,I t] 214):=⟨h.no ((Mod.refl _ _).alloc _),heap_alloc_new w _⟩;have hownA:=hown.alloc (.cells #[I x,I s,I y,I t] 214);clear h hu hnv hXM hP e1 hL hvp hPv hown;have hp1:=hp.1;have hp2:=hp.2.1;have hp3:=hp.2.2.1;have hp4:=hp.2.2.2;go_enter func97,ntmps97;go_wp2_with fail;have DN:Hd (Mod No w (w.alloc (.cells #[I x,I s,I y,I t] 214))):=(Mod.refl _ _).alloc _;generalize w.alloc (.cells #[I x,I s,I y,I t] 214)=W1 at HW1 DN hownA ⊢;generalize w.heap.size=BX at HW1 aEd hgw ⊢;have b0:=HW1.o.2.cell 0 rfl;have b1:=HW1.o.2.cell 1 rfl;have b2:=HW1.o.2.cell 2 rfl;have b3:=HW1.o.2.cell 3 rfl;have k4:=HW1.o.1.blk.cell 4 rfl;have K4:=HW1.o.1.blk.aS 4 rfl;rw[HVP.o.1]at k4 K4;have F4:=HW1.o.1.blk.dQ 4;have aH9:=HW1.o.1.blk.lt;have aFz:some G≠(Value.slice pa L pc).ownBlock:=by rw[<-HVP.o.1];exact fun e=>HW1.o.1.blk.apart HW1.o.1.pr (by decide) e.symm
   go_region_law (refine step_append_lies _ (by rfl) _ _ _ (by rfl) 0 214 i0 _ 4 32 underlying165 af hz0 hz1 hz2 rfl (by omega) (.slice pa L pc) L (pairs.flatMap PaE.f) (by rfl) ((hownA.alloc _).drew) (J W1.heap.size 0) 1 1 [I x,I s,I y,I t] (by rfl) (by rfl) (World.news_of_block (cs:=#[I x,I s,I y,I t]) (t:=214) (fr:=(0,0)) (heap_alloc_new W1 _)) (by intro u hu;simp at hu;rcases hu with rfl | rfl | rfl | rfl <;> rfl) (by omega) (by unfold maxLen;omega) (by omega) (by simp) (W1.heap.size+1) (by simp) ?_;intro gg cap2 w7 gV hgrow hat fJ;have s0:=(hgrow.cell_far (J G 4) (by simp;omega) aFz).trans (K4 _);have s1:=(hgrow.frozen_far (J G 4) (by simp;omega) aFz).trans (F4 _))
   all_goals
    have zk:=HW1.o.1.no (((Mod.refl _ _).alloc (.cells #[I x,I s,I y,I t] 214)).drew);have vY:Row PaE w7 (Jn gg (L+1) cap2) (pairs++[⟨x,s,y,t⟩]):=jq HVP.o.2 rfl gV;have HF7:Hd (aN W1 vp (Jn gg (L+1) cap2)):=gW (H:=W1.heap.size+1) (by rw[HVP.o.1];exact hat) (by omega);have gU:=qH (zk.aFx (by rw[HVP.o.1];exact hgrow) vY);have Jm:Mod (Nu G vp (Jn gn N LP)) W1 w7:=(((Mod.refl _ _).alloc _).drew).grown hgrow (fun g hg _=>Or.inr (Or.inl (by rw[HVP.o.1];exact hg)));have HM8:Hd (Mod (Nu G vp (Jn gn N LP)) W1 (w7.setCell (J G 4) (Jn gg (L+1) cap2))):=Jm.setCell (a:=J G 4) (fun _=>Or.inl rfl) _;generalize w7.setCell (J G 4) (Jn gg (L+1) cap2)=w8 at gU HM8 ⊢;have d4:=gU.o.blk.cell 4 rfl;have d6:=gU.o.blk.cell 6 rfl;have dP:=dh.cell gU.o.nu HNU.o;have fP:=gU.o.nu.free P;go_wp2_with fail
    go_region
    all_goals
     have HI9:Hd (NG v base G ka kw kh kd (Jn gg (L+1) cap2) c5 (Jn gn N LP) vs c8 c9 (pairs++[⟨x,s,y,t⟩]) (nums.set P (L+1)) steps (w8.setCell (J gn P) (I ((L:Int)+1))).drew):=by
      have h8:=gU.o;have DY:Mod (fun q=>q=gn) w8 (w8.setCell (J gn P) (I ((L+1:Nat):Int))):=(Mod.refl (fun q=>q=gn) _).setCell (a:=J gn P) (fun _=>rfl) _;have hs9:Safe (fun q=>q=gn) w8 3 3:=fun g c T hg h1 h2 e=>by
       have:=Safe.row h8.nu g c T hg h1 h2;exact this (by rw[e];rfl)
      have h9:NG v base G ka kw kh kd (Jn gg (L+1) cap2) c5 (Jn gn N LP) vs c8 c9 (pairs++[⟨x,s,y,t⟩]) (nums.set P (L+1)) steps (w8.setCell (J gn P) (I ((L+1:Nat):Int))):=⟨h8.blk.safe DY hs9 (by decide) (by decide),h8.vw.far DY hs9 (by decide) (by decide),h8.pr.safe DY hs9 (by decide) (by decide),dh.put h8.nu (L+1) HNU.o,h8.sp.safe DY hs9 (by decide) (by decide)⟩;exact h9.no ((Mod.refl _ _).drew)
     have HM9:Hd (Mod (Nu G vp (Jn gn N LP)) W1 (w8.setCell (J gn P) (I ((L:Int)+1))).drew):=(HM8.o.setCell (a:=J gn P) (fun _=>Or.inr (Or.inr rfl)) _).drew;generalize (w8.setCell (J gn P) (I ((L:Int)+1))).drew=w9 at HI9 HM9 ⊢;have x6:=HI9.o.blk.cell 6 rfl;have xP:=dh.cell HI9.o.nu (getElem?_set_self (by rw[<-UA.o.2];exact hxl));have hLL:((L+1:Nat):Int)-1=(L:Int):=by omega
     go_wp2;go_ret;refine⟨bQ (by omega),_,HI9.o,?_,?_⟩
     ·intro g hg;rcases HF7.o g hg with e | e
      ·exact Or.inl e
      ·exact Or.inr (by have:=DN.o.size;omega)
     ·exact(DN.o.more (fun _ _ x=>x.elim)).trans HM9.o
structure GOk(n:Nat)(g:M3.Gr):Prop where
 nl:g.nums.length<=100000
 nv:∀u∈g.nums,u<=g.pairs.length
theorem yt{ps':List M2.Pair}{ns':List Nat}(h1:ns.length<=100000)(h2:∀u∈ns,u<=ps.length)(h:oZ n ps ns p=some (k,ps',ns')):ns'.length<=100000∧(∀u∈ns',u<=ps'.length)∧ps'.length<=ps.length+1:=by
 unfold oZ at h;split at h
 ·cases h
 ·simp only[Option.some.injEq,Prod.mk.injEq]at h;obtain⟨-,rfl,rfl⟩:=h;refine⟨by simpa using h1,fun u hu=>?_,by simp⟩;rcases mem_or_eq_of_mem_set hu with h | h
  ·have:=h2 u h;simp;omega
  ·rw[h];simp
 ·simp only[Option.some.injEq,Prod.mk.injEq]at h;obtain⟨-,rfl,rfl⟩:=h;exact⟨h1,h2,by omega⟩
theorem aJy{y:Nat}(hr:rs[y]?=some r)(h:jy n fr l p sa sb x (rs.drop y) y g=some R):∃k,r.get l=some k∧((k=p.y∧g.pairs.length<=50000∧g.steps.length<=1000000000∧∃tt ps ns,oZ n g.pairs g.nums ⟨x,sa.2,y,sb.2⟩=some (tt,ps,ns)∧jy n fr l p sa sb x (rs.drop (y+1)) (y+1) ⟨ps,ns,g.steps++[⟨fr,tt,l,sa.1,sb.1⟩]⟩=some R)∨(k≠p.y∧jy n fr l p sa sb x (rs.drop (y+1)) (y+1) g=some R)):=by
 obtain⟨h1,h2⟩:=bU hr;rw[kJ h1,h2,jy]at h;split at h
 ·cases h
 ·rename_i k hk;refine⟨k,hk,?_⟩;split at h
  ·rename_i he;split at h
   ·rename_i hc;split at h
    ·cases h
    ·rename_i tt ps ns hg;exact Or.inl ⟨he,hc.1,hc.2,tt,ps,ns,hg,h⟩
   ·cases h
  ·rename_i he;exact Or.inr ⟨he,h⟩
theorem UC{all:List aI.R4}(hr:rs[x]?=some r)(h:kR n fr l p sa sb all (rs.drop x) x g=some R):∃k,r.get l=some k∧((k=p.x∧∃g2,jy n fr l p sa sb x all 0 g=some g2∧kR n fr l p sa sb all (rs.drop (x+1)) (x+1) g2=some R)∨(k≠p.x∧kR n fr l p sa sb all (rs.drop (x+1)) (x+1) g=some R)):=by
 obtain⟨h1,h2⟩:=bU hr;rw[kJ h1,h2,kR]at h;split at h
 ·cases h
 ·rename_i k hk;refine⟨k,hk,?_⟩;split at h
  ·rename_i he;split at h
   ·cases h
   ·rename_i g2 hg;exact Or.inl ⟨he,g2,hg,h⟩
  ·rename_i he;exact Or.inr ⟨he,h⟩
def Le(G:Nat)(vp vn vs:Value):Nat->Prop:=fun k=>k=G∨vp.ownBlock=some k∨vn.ownBlock=some k∨vs.ownBlock=some k
structure LG(w:World)(v:M2.View)(base G:Nat)(ka kw kh kd vp0 c5 vn vs0 c8 c9:Value)(vp vs:Value)(g:M3.Gr)(wr:World):Prop where
 ng:NG v base G ka kw kh kd vp c5 vn vs c8 c9 g.pairs g.nums g.steps wr
 fp:aN w vp0 vp
 fs:aN w vs0 vs
 md:Mod (Le G vp0 vn vs0) w wr
 ok:GOk v.k.ahead.length g
section
variable {w:World} {v:M2.View} {base G:Nat} {ka kw kh kd vp0 c5 vn vs0 c8 c9 vp vs:Value} {g:M3.Gr} {wr wr':World}
theorem LG.no(h:LG w v base G ka kw kh kd vp0 c5 vn vs0 c8 c9 vp vs g wr)(hm:Mod No wr wr'):LG w v base G ka kw kh kd vp0 c5 vn vs0 c8 c9 vp vs g wr':=⟨h.ng.no hm,h.fp,h.fs,h.md.no hm,h.ok⟩
theorem LG.num{Dl:Value}(h:LG w v base G ka kw kh kd vp0 c5 vn vs0 c8 c9 vp vs g wr)(hg:oZ v.k.ahead.length g.pairs g.nums p=some (k,ps,ns))(hn:NG v base G ka kw kh kd Dl c5 vn vs c8 c9 ps ns g.steps wr')(hf:aN wr vp Dl)(hm:Mod (Nu G vp vn) wr wr'):LG w v base G ka kw kh kd vp0 c5 vn vs0 c8 c9 Dl vs ⟨ps,ns,g.steps⟩ wr':=by
 have hok:=yt h.ok.nl h.ok.nv hg;refine⟨hn,h.fp.trans hf h.md.size,h.fs,h.md.trans' hm (fun q hq e=>?_),⟨hok.1,hok.2.1⟩⟩;rcases e with e | e | e
 ·exact Or.inl e
 ·rcases h.fp q e with e2 | e2
  ·exact Or.inr (Or.inl e2)
  ·omega
 ·exact Or.inr (Or.inr (Or.inl e))
theorem LG.step(h:LG w v base G ka kw kh kd vp0 c5 vn vs0 c8 c9 vp vs g wr)(hg:wr.grownBy w7 vs.ownBlock)(hrow:Row SpE w7 v2 s2)(hf:aN wr vs v2):LG w v base G ka kw kh kd vp0 c5 vn vs0 c8 c9 vp v2 ⟨g.pairs,g.nums,s2⟩ (w7.setCell (J G 7) v2):=by
 refine⟨h.ng.aFy hg hrow,h.fp,h.fs.trans hf h.md.size,?_,⟨h.ok.nl,h.ok.nv⟩⟩;have sH:Mod (Le G vp0 vn vs0) w w7:=h.md.grown hg (fun q e hlt=>by
  rcases h.fs q e with e2 | e2
  ·exact Or.inr (Or.inr (Or.inr e2))
  ·omega)
 exact sH.setCell (a:=J G 7) (fun _=>Or.inl rfl) _
end
theorem Xh(w:World)(v:M2.View)(base G:Nat)(ka kw kh kd vp c5 vn vs c8 c9:Value)(g:M3.Gr)(h:NG v base G ka kw kh kd vp c5 vn vs c8 c9 g.pairs g.nums g.steps w)(hok:GOk v.k.ahead.length g)(fr l:Nat)(hl:l<4)(hfr:fr<=100000){g':M3.Gr}(hM:M3.lead v fr l g=some g'):J1 98 #[Jx G 0,I fr,I l] w fun e w'=>e=.returned (.tuple #[])∧∃Dl vs',LG w v base G ka kw kh kd vp c5 vn vs c8 c9 Dl vs' g' w':=by
 obtain⟨n,hn⟩:=eX v.k.ahead.length;have aIU:n<=24:=by rw[hn];exact h.vw.n24
 unfold M3.lead at hM
 cases hp:g.pairs[fr]? with
 | none=>rw[hp]at hM;cases hM
 | some p=>
  rw[hp]at hM
  dsimp only at hM
  split at hM
  ·rename_i hpk;rw[<-hn]at hM hpk;obtain⟨a1,c1,e1,-,-⟩:=h.vw.ah.open hn.symm;obtain⟨a2,c2,e2,-,-⟩:=h.vw.wo.open rfl;obtain⟨a3,c3,e3,-,-⟩:=h.vw.hi.open (n:=n) (by rw[h.vw.nh];exact hn.symm);obtain⟨a4,c4,e4,-,-⟩:=h.vw.de.open (n:=n) (by rw[h.vw.ok.len];exact hn.symm);generalize v.k.words.length=NW at e2;have H78:Hd (∀(wx:World) (kind tc:Nat),VP v base ka kw kh kd wx->kind<n->tc<4->J1 128 #[.agg #[.slice a1 n c1,.slice a2 NW c2,.slice a3 n c3,.slice a4 n c4],I kind,I tc,I l] wx fun e w'=>e=.returned (.tuple #[.string ⟨(aW v kind tc l).1.toArray⟩,I ((aW v kind tc l).2:Int)])∧Mod No wx w'):=fun wx kind tc hx hk ht=>by
    have:=xB wx ka kw kh kd v kind tc l hx.ah.sl hx.wo.sl hx.hi.sl hx.de hl (by rw[hx.ok.len];omega) (by omega) (by have:=hx.ok.len;have:=hx.n24;omega) (fun d hd=>by have:=(hx.ok.tak d hd).1;omega)
    rwa [e1,e2,e3,e4]at this
   obtain⟨pn,hpn⟩:=eX g.pairs.length;obtain⟨gp,cp,BN,-,-⟩:=h.pr.form (by have:=(bU hp).1;omega);rw[<-hpn]at BN;have hfp:fr<pn:=by have:=(bU hp).1;omega
   have aCu:=wE v h.vw.ok p.x p.s l hpk.2.1;have aCv:=wE v h.vw.ok p.y p.t l hpk.2.2.2;have HI0:Hd (LG w v base G ka kw kh kd vp c5 vn vs c8 c9 vp vs g w):=⟨h,aN.refl _ _,aN.refl _ _,Mod.refl _ _,hok⟩;have HM:Hd (kR n fr l p (aW v p.x p.s l) (aW v p.y p.t l) v.k.ahead (v.k.ahead.drop 0) 0 g=some g'):=hM;have HE:Hd (ka=.slice a1 n c1∧kw=.slice a2 NW c2∧kh=.slice a3 n c3∧kd=.slice a4 n c4):=⟨e1,e2,e3,e4⟩;have HN:=qH hn;have HV:=qH h.vw.ok;have Xi:=h.pr;rw[BN]at Xi;have q0:w.cell? (J gp (fr*4))=some (I p.x):=Xi.cell fr 0 hp rfl;have q1:w.cell? (J gp (fr*4+1))=some (I p.s):=Xi.cell fr 1 hp rfl;have q2:w.cell? (J gp (fr*4+2))=some (I p.y):=Xi.cell fr 2 hp rfl;have q3:w.cell? (J gp (fr*4+3))=some (I p.t):=Xi.cell fr 3 hp rfl;have k4:=h.blk.cell 4 rfl;rw[BN]at k4;have hfi:(fr:Int)<pn:=by omega
   obtain⟨px,ps,py,pt⟩:=p;simp only at hpk aCu aCv HM q0 q1 q2 q3;obtain⟨sa,hsa⟩:=eX (aW v px ps l);obtain⟨sb,hsb⟩:=eX (aW v py pt l);have aEe:=fun wx hx=>H78.o wx px ps hx hpk.1 hpk.2.1
   have aEf:=fun wx hx=>H78.o wx py pt hx hpk.2.2.1 hpk.2.2.2
   rw[<-hsa]at aEe aCu;rw[<-hsb]at aEf aCv;rw[<-hsa,<-hsb]at HM;have aFA:=qH aEe;have aFB:=qH aEf;clear h hok hM hp Xi e1 e2 e3 e4 hpn BN hn hsa hsb aEe aEf H78;go_enter func98,ntmps98;go_wp2_with fail;clear q0 q1 q2 q3 k4;have HB1:Hd (LG w v base G ka kw kh kd vp c5 vn vs c8 c9 vp vs g (w.alloc (.cells #[I px,I ps,I py,I pt] 214))∧aG (w.alloc (.cells #[I px,I ps,I py,I pt] 214)) w.heap.size [I px,I ps,I py,I pt] 214):=⟨HI0.o.no ((Mod.refl _ _).alloc _),heap_alloc_new w _⟩;have hvB:∀q,vp.ownBlock=some q->q≠w.heap.size:=fun q e e2=>by have:=HI0.o.ng.pr.lt e;omega
   generalize w.alloc (.cells #[I px,I ps,I py,I pt] 214)=W1 at HB1 ⊢;have hBw:w.heap.size<=w.heap.size:=dH _;generalize hBQ:w.heap.size=B at HB1 hvB ⊢;have hBw:w.heap.size<=B:=by omega
   clear hBQ HI0;have hne:Nonempty (After W1):=⟨⟨W1,Mod.refl _ _⟩⟩;have z0:∀x:After W1,x.val.cell? (J G 0)=some (.slice a1 n c1):=fun x=>by have h:=(HB1.o.1.ng.blk.mod x.property (fun y=>y)).cell 0 rfl;rw[HE.o.1]at h;exact h
   have z1:∀x:After W1,x.val.cell? (J G 1)=some (.slice a2 NW c2):=fun x=>by have h:=(HB1.o.1.ng.blk.mod x.property (fun y=>y)).cell 1 rfl;rw[HE.o.2.1]at h;exact h
   have z2:∀x:After W1,x.val.cell? (J G 2)=some (.slice a3 n c3):=fun x=>by have h:=(HB1.o.1.ng.blk.mod x.property (fun y=>y)).cell 2 rfl;rw[HE.o.2.2.1]at h;exact h
   have z3:∀x:After W1,x.val.cell? (J G 3)=some (.slice a4 n c4):=fun x=>by have h:=(HB1.o.1.ng.blk.mod x.property (fun y=>y)).cell 3 rfl;rw[HE.o.2.2.2]at h;exact h
   have y0:=fun(x:After W1)=>(HB1.o.2.mod x.property (fun y=>y)).cell 0 rfl
   have y1:=fun(x:After W1)=>(HB1.o.2.mod x.property (fun y=>y)).cell 1 rfl
   have y2:=fun(x:After W1)=>(HB1.o.2.mod x.property (fun y=>y)).cell 2 rfl
   have y3:=fun(x:After W1)=>(HB1.o.2.mod x.property (fun y=>y)).cell 3 rfl
   refine aIw (by kernel_rfl) (by kernel_rfl) ?_;repeat (quiet_step (exact Calls.calm (aFA.o _ (HB1.o.1.ng.vw.no (Subtype.property _)))))
   refine wpQuiet_nil ?_;rintro _ ⟨X1,rfl⟩;have HB2:Hd (LG w v base G ka kw kh kd vp c5 vn vs c8 c9 vp vs g X1.val∧aG X1.val B [I px,I ps,I py,I pt] 214):=⟨HB1.o.1.no X1.property,HB1.o.2.mod X1.property (fun y=>y)⟩;generalize X1.val=W2 at HB2 ⊢;clear HB1 hne z0 z1 z2 z3 y0 y1 y2 y3 X1 aFA;go_wp2_with fail;have hne:Nonempty (After W2):=⟨⟨W2,Mod.refl _ _⟩⟩;have z0:∀x:After W2,x.val.cell? (J G 0)=some (.slice a1 n c1):=fun x=>by have h:=(HB2.o.1.ng.blk.mod x.property (fun y=>y)).cell 0 rfl;rw[HE.o.1]at h;exact h
   have z1:∀x:After W2,x.val.cell? (J G 1)=some (.slice a2 NW c2):=fun x=>by have h:=(HB2.o.1.ng.blk.mod x.property (fun y=>y)).cell 1 rfl;rw[HE.o.2.1]at h;exact h
   have z2:∀x:After W2,x.val.cell? (J G 2)=some (.slice a3 n c3):=fun x=>by have h:=(HB2.o.1.ng.blk.mod x.property (fun y=>y)).cell 2 rfl;rw[HE.o.2.2.1]at h;exact h
   have z3:∀x:After W2,x.val.cell? (J G 3)=some (.slice a4 n c4):=fun x=>by have h:=(HB2.o.1.ng.blk.mod x.property (fun y=>y)).cell 3 rfl;rw[HE.o.2.2.2]at h;exact h
   have y2:=fun(x:After W2)=>(HB2.o.2.mod x.property (fun y=>y)).cell 2 rfl
   have y3:=fun(x:After W2)=>(HB2.o.2.mod x.property (fun y=>y)).cell 3 rfl
   refine aIw (by kernel_rfl) (by kernel_rfl) ?_;repeat (quiet_step (exact Calls.calm (aFB.o _ (HB2.o.1.ng.vw.no (Subtype.property _)))))
   refine wpQuiet_nil ?_;rintro _ ⟨X2,rfl⟩;have HB3:Hd (LG w v base G ka kw kh kd vp c5 vn vs c8 c9 vp vs g X2.val∧aG X2.val B [I px,I ps,I py,I pt] 214):=⟨HB2.o.1.no X2.property,HB2.o.2.mod X2.property (fun y=>y)⟩;generalize X2.val=W3 at HB3 ⊢;clear HB2 hne z0 z1 z2 z3 y2 y3 X2 aFB;obtain⟨SA,Yd⟩:=eX (⟨sa.1.toArray⟩:ByteArray);obtain⟨SB,hSB⟩:=eX (⟨sb.1.toArray⟩:ByteArray);have Gp:Hd (SA=(⟨sa.1.toArray⟩:ByteArray)∧SB=(⟨sb.1.toArray⟩:ByteArray)):=⟨Yd,hSB⟩;rw[<-Yd,<-hSB];clear Yd hSB;obtain⟨LA,hLA⟩:=eX sa.2;obtain⟨LB,hLB⟩:=eX sb.2;have HLL:Hd (LA=sa.2∧LB=sb.2):=⟨hLA,hLB⟩;rw[<-hLA,<-hLB];rw[<-hLA]at aCu;rw[<-hLB]at aCv;clear hLA hLB;have z0:=HB3.o.1.ng.blk.cell 0 rfl;rw[HE.o.1]at z0;go_wp2_with fail;clear z0;go_loopg [60] n (fun gh v60 wr=>∃(x:Nat) (vp1 vs1:Value) (g1:M3.Gr),x<=n∧gh=n-x∧v60=I x∧vp1.ownBlock≠some B∧kR n fr l ⟨px,ps,py,pt⟩ sa sb v.k.ahead (v.k.ahead.drop x) x g1=some g'∧LG w v base G ka kw kh kd vp c5 vn vs c8 c9 vp1 vs1 g1 wr∧aG wr B [I px,I ps,I py,I pt] 214)
   case atStart=>exact⟨0,vp,vs,g,by omega,by omega,rfl,fun e=>hvB B e rfl,HM.o,HB3.o.1,HB3.o.2⟩
   case round=>
    clear HB3 HM;obtain⟨x,vp1,vs1,g1,hxn,hgk,rfl,aFC,hgo,hI,hB⟩:=hrel;have HI:Hd (LG w v base G ka kw kh kd vp c5 vn vs c8 c9 vp1 vs1 g1 wr∧aG wr B [I px,I ps,I py,I pt] 214):=⟨hI,hB⟩;by_cases hlt:x<n
    ·obtain⟨r,hr⟩:∃r,v.k.ahead[x]?=some r:=⟨v.k.ahead[x]'(by have:=HN.o;omega),bG _⟩;obtain⟨k,hk,hcase⟩:=UC hr hgo;have hra:=hI.ng.vw.ah;rw[HE.o.1]at hra;obtain⟨ga,hga⟩:∃g,a1=some (J g 0):=by
      obtain⟨g2,c2,h2,-⟩:=hI.ng.vw.ah.form (by have:=HN.o;omega);rw[HE.o.1]at h2;injection h2 with h2 _;exact⟨g2,h2⟩
     subst hga;have r0:wr.cell? (J ga (x*4))=some (I r.a):=hra.cell x 0 hr rfl;have r1:wr.cell? (J ga (x*4+1))=some (I r.b):=hra.cell x 1 hr rfl;have r2:wr.cell? (J ga (x*4+2))=some (I r.c):=hra.cell x 2 hr rfl;have r3:wr.cell? (J ga (x*4+3))=some (I r.d):=hra.cell x 3 hr rfl;obtain⟨W4,hW4⟩:∃W4,wr.alloc (.cells #[I r.a,I r.b,I r.c,I r.d] 102)=W4:=⟨_,rfl⟩;have hQ:aG W4 wr.heap.size [I r.a,I r.b,I r.c,I r.d] 102:=by rw[<-hW4];exact heap_alloc_new wr _
     have HI4:Hd (LG w v base G ka kw kh kd vp c5 vn vs c8 c9 vp1 vs1 g1 W4∧aG W4 B [I px,I ps,I py,I pt] 214):=by rw[<-hW4];exact⟨hI.no ((Mod.refl _ _).alloc _),hB.alloc _⟩
     have cQ:W4.cell? (J wr.heap.size l)=some (I k):=hQ.cell l (by have q:=zq r l hl;rw[hk]at q;exact q);have cB:=HI4.o.2.cell 0 rfl;have hxi:(x:Int)<n:=by omega
     have yZ:(l:Int)<4:=by omega
     clear hI hB hra hr hgo hQ hk;go_wp2_with fail;clear hW4 r0 r1 r2 r3 HI;rcases hcase with ⟨rfl,g2,hY,hX⟩ | ⟨hne,hX⟩
     ·have HYY:Hd (jy n fr l ⟨k,ps,py,pt⟩ sa sb x (v.k.ahead.drop 0) 0 g1=some g2):=hY;have HXX:=qH hX;clear hY hX;go_quiet (fail);have uF:Hd (LG w v base G ka kw kh kd vp c5 vn vs c8 c9 vp1 vs1 g1 (W4.drewN nq)∧aG (W4.drewN nq) B [I k,I ps,I py,I pt] 214):=⟨HI4.o.1.no ((Mod.refl _ _).drewN _),HI4.o.2.drewN _⟩;generalize W4.drewN nq=W5 at uF ⊢;clear HI4 cQ cB;have z0:=uF.o.1.ng.blk.cell 0 rfl;rw[HE.o.1]at z0;go_wp2_with fail;clear z0;generalize wr.heap.size=Q1;go_loopg [79] n (fun gh v79 wr=>∃(y:Nat) (SS vs2:Value) (g3:M3.Gr),y<=n∧gh=n-y∧v79=I y∧SS.ownBlock≠some B∧jy n fr l ⟨k,ps,py,pt⟩ sa sb x (v.k.ahead.drop y) y g3=some g2∧LG w v base G ka kw kh kd vp c5 vn vs c8 c9 SS vs2 g3 wr∧aG wr B [I k,I ps,I py,I pt] 214)
      case atStart=>exact⟨0,vp1,vs1,g1,by omega,by omega,rfl,aFC,HYY.o,uF.o.1,uF.o.2⟩
      case round=>
       clear uF HYY;obtain⟨y,SS,vs2,g3,hyn,hgy,rfl,aCw,hgo,hI,hB⟩:=hrel;have HI:Hd (LG w v base G ka kw kh kd vp c5 vn vs c8 c9 SS vs2 g3 wr∧aG wr B [I k,I ps,I py,I pt] 214):=⟨hI,hB⟩;by_cases hly:y<n
       ·obtain⟨r,hr⟩:∃r,v.k.ahead[y]?=some r:=⟨v.k.ahead[y]'(by have:=HN.o;omega),bG _⟩;obtain⟨kk,hk,hcase⟩:=aJy hr hgo;have hra:=hI.ng.vw.ah;rw[HE.o.1]at hra;have r0:wr.cell? (J ga (y*4))=some (I r.a):=hra.cell y 0 hr rfl;have r1:wr.cell? (J ga (y*4+1))=some (I r.b):=hra.cell y 1 hr rfl;have r2:wr.cell? (J ga (y*4+2))=some (I r.c):=hra.cell y 2 hr rfl;have r3:wr.cell? (J ga (y*4+3))=some (I r.d):=hra.cell y 3 hr rfl;obtain⟨W6,hW6⟩:∃W6,wr.alloc (.cells #[I r.a,I r.b,I r.c,I r.d] 102)=W6:=⟨_,rfl⟩;have hQ:aG W6 wr.heap.size [I r.a,I r.b,I r.c,I r.d] 102:=by rw[<-hW6];exact heap_alloc_new wr _
        have BD:Hd (LG w v base G ka kw kh kd vp c5 vn vs c8 c9 SS vs2 g3 W6∧aG W6 B [I k,I ps,I py,I pt] 214):=by rw[<-hW6];exact⟨hI.no ((Mod.refl _ _).alloc _),hB.alloc _⟩
        have cQ:W6.cell? (J wr.heap.size l)=some (I kk):=hQ.cell l (by have q:=zq r l hl;rw[hk]at q;exact q);have cB:=BD.o.2.cell 2 rfl;have hyi:(y:Int)<n:=by omega
        clear hI hB hra hr hgo hQ hk;go_wp2_with fail;clear hW6 r0 r1 r2 r3 HI;rcases hcase with ⟨hkp,hg5,hs5,tt,ps',ns',hgn,hY⟩ | ⟨hne,hY⟩
        ·obtain rfl:kk=py:=hkp;have HYY:Hd (jy n fr l ⟨k,ps,kk,pt⟩ sa sb x (v.k.ahead.drop (y+1)) (y+1) ⟨ps',ns',g3.steps++[⟨fr,tt,l,sa.1,sb.1⟩]⟩=some g2):=hY;have HGN:Hd (oZ v.k.ahead.length g3.pairs g3.nums ⟨x,LA,y,LB⟩=some (tt,ps',ns')):=qH <| by
          rw[<-HN.o,HLL.o.1,HLL.o.2];exact hgn
         clear hY hgn;go_quiet (fail);have AY:Hd (LG w v base G ka kw kh kd vp c5 vn vs c8 c9 SS vs2 g3 (W6.drewN nq)∧aG (W6.drewN nq) B [I k,I ps,I kk,I pt] 214):=⟨BD.o.1.no ((Mod.refl _ _).drewN _),BD.o.2.drewN _⟩;generalize W6.drewN nq=W7 at AY ⊢;clear BD cQ cB;have h53:=QS W7 v base G ka kw kh kd SS c5 vn vs2 c8 c9 g3.pairs g3.nums g3.steps AY.o.1.ng ⟨x,LA,y,LB⟩ ⟨by show x<24;omega,aCu,by show y<24;omega,aCv⟩ (by omega) AY.o.1.ok.nl (fun u hu=>by have:=AY.o.1.ok.nv u hu;omega) HGN.o;go_wp2_with fail;refine h53.mono ?_;rintro e w8 ⟨rfl,vp3,hN8,Qs,Jm⟩;have hI8:=AY.o.1.num HGN.o hN8 Qs Jm;have hB8:aG w8 B [I k,I ps,I kk,I pt] 214:=AY.o.2.mod Jm (by
          rintro(e | e | e)
          ·exact AY.o.2.diff AY.o.1.ng.blk (by decide) e
          ·exact aCw e
          ·exact AY.o.2.apart AY.o.1.ng.nu (by decide) e)
         have aGW:vp3.ownBlock≠some B:=fun e=>by
          rcases Qs B e with h | h
          ·exact aCw h
          ·have:=AY.o.2.lt;omega
         have gU:Hd (LG w v base G ka kw kh kd vp c5 vn vs c8 c9 vp3 vs2 ⟨ps',ns',g3.steps⟩ w8∧aG w8 B [I k,I ps,I kk,I pt] 214):=⟨hI8,hB8⟩;obtain⟨sn,hsn⟩:=eX g3.steps.length;obtain⟨sA,sC,evs,-,hown⟩:=hI8.ng.sp.open (n:=sn) hsn.symm;have hown:w8.ownsRow 0 225 5 (.slice sA sn sC) sn (g3.steps.flatMap SpE.f):=hown;have HVS:Hd (vs2=.slice sA sn sC∧g3.steps.length=sn):=⟨evs,hsn.symm⟩;have k7:=hI8.ng.blk.cell 7 rfl;rw[evs]at k7;have hGl:=hI8.ng.blk.lt;have hGs:some G≠(Value.slice sA sn sC).ownBlock:=by rw[<-evs];exact fun e=>hI8.ng.blk.apart hI8.ng.sp (by decide) e.symm
         obtain⟨i0,af,hz0,hz1,hz2⟩:=info_parts aJT;rw[hsn.symm]at hs5;clear h53 hN8 Qs Jm hI8 hB8 AY evs hsn;go_wp2_with (at_builtin;refine wpList_append_lies _ rfl _ _ 166 rfl 0 225 i0 _ 5 56 underlying166 af hz0 hz1 hz2 rfl (by omega) (.slice sA sn sC) sn (g3.steps.flatMap SpE.f) rfl (hown.alloc _) (J w8.heap.size 0) 1 1 [I fr,I tt,I l,.string SA,.string SB] rfl rfl (World.news_of_block (cs:=#[I fr,I tt,I l,.string SA,.string SB]) (t:=225) (fr:=(0,0)) (heap_alloc_new w8 _)) (by intro u hu;simp at hu;rcases hu with rfl | rfl | rfl | rfl | rfl <;> rfl) (by omega) (by unfold maxLen;omega) (by omega) (by simp) (w8.heap.size+1) (by simp) ?_);intro gg cap2 w9 qL hgrow hat fJ;have AZ:=gU.o.1.no ((Mod.refl _ _).alloc (.cells #[I fr,I tt,I l,.string SA,.string SB] 225));have hB9:=gU.o.2.alloc (.cells #[I fr,I tt,I l,.string SA,.string SB] 225);have hr9:Row SpE w9 (Jn gg (sn+1) cap2) (g3.steps++[⟨fr,tt,l,sa.1,sb.1⟩]):=jq HVS.o.2 (by rw[Gp.o.1,Gp.o.2];rfl) qL;have hf9:aN (w8.alloc (.cells #[I fr,I tt,I l,.string SA,.string SB] 225)) vs2 (Jn gg (sn+1) cap2):=gW (H:=w8.heap.size+1) (by rw[HVS.o.1];exact hat) (by simp);have Ye:aG w9 G _ 168:=AZ.ng.blk.grown hgrow hGs;have a7:=Ye.cell 7 rfl;rw[HVS.o.1]at a7;have b7:=Ye.free 7;have aEg:=hB9.grown hgrow (fun e=>hB9.apart AZ.ng.sp (by decide) (by rw[HVS.o.1];exact e.symm));have wC:Hd (LG w v base G ka kw kh kd vp c5 vn vs c8 c9 vp3 (Jn gg (sn+1) cap2) ⟨ps',ns',g3.steps++[⟨fr,tt,l,sa.1,sb.1⟩]⟩ (w9.setCell (J G 7) (Jn gg (sn+1) cap2))∧aG (w9.setCell (J G 7) (Jn gg (sn+1) cap2)) B [I k,I ps,I kk,I pt] 214):=⟨AZ.step (by rw[HVS.o.1];exact hgrow) hr9 hf9,aEg.other (a:=J G 7) (aEg.diff Ye (by decide)) _⟩;clear AZ hB9 hr9 hf9 Ye aEg qL hgrow hat fJ hown af hz0 hz1 hz2 k7 hGs gU;go_wp2;go_roundg (n-(y+1))
         case measure=>omega
         case rel=>exact⟨y+1,vp3,_,_,by omega,rfl,by go_num,aGW,HYY.o,wC.o.1,wC.o.2⟩
        ·have aEh:((kk:Int)==(py:Int))=false:=by have hne2:kk≠py:=hne;rw[beq_eq_false_iff_ne];omega
         have aGX:((kk:Int) != (py:Int))=true:=by rw[bne,aEh];rfl
         have HYY:=qH hY;clear hY hne;go_quiet (fail);go_wp2;go_roundg (n-(y+1))
         case measure=>omega
         case rel=>exact⟨y+1,SS,vs2,g3,by omega,rfl,by go_num,aCw,HYY.o,BD.o.1.no ((Mod.refl _ _).drewN _),BD.o.2.drewN _⟩
       ·obtain rfl:y=n:=by omega
        have e1:v.k.ahead.drop y=[]:=drop_of_length_le (by have:=HN.o;omega);rw[e1]at hgo;have HG:=qH (dY hgo);have hyy:¬(y:Int)<y:=by omega
        clear hI hB hgo e1 hgy hyn hly;go_wp2;go_roundg (y-(x+1))
        case measure=>omega
        case rel=>exact⟨x+1,SS,vs2,g2,by omega,rfl,by go_num,aCw,HXX.o,by rw[<-HG.o];exact HI.o.1,HI.o.2⟩
     ·have aEh:((k:Int)==(px:Int))=false:=by have hne2:k≠px:=hne;rw[beq_eq_false_iff_ne];omega
      have aGX:((k:Int) != (px:Int))=true:=by rw[bne,aEh];rfl
      have HXX:=qH hX;clear hX hne;go_quiet (fail);go_wp2;go_roundg (n-(x+1))
      case measure=>omega
      case rel=>exact⟨x+1,vp1,vs1,g1,by omega,rfl,by go_num,aFC,HXX.o,HI4.o.1.no ((Mod.refl _ _).drewN _),HI4.o.2.drewN _⟩
    ·obtain rfl:x=n:=by omega
     have e1:v.k.ahead.drop x=[]:=drop_of_length_le (by have:=HN.o;omega);rw[e1]at hgo;have HG:=qH (dY hgo);have hxx:¬(x:Int)<x:=by omega
     clear hI hB hgo e1 hgk hxn hlt;go_wp2;go_end0;exact⟨rfl,vp1,vs1,by rw[<-HG.o];exact HI.o.1⟩
  ·cases hM
def D5:Enc Int:=⟨3,1,fun x=>[I x],fun _=>rfl⟩
theorem D5.cell{g:Nat}(h:Row D5 w (Jn g n cap) xs){x:Int}(hx:xs[i]?=some x):w.cell? (J g i)=some (I x):=by
 have:=h.cell i 0 hx (u:=I x) rfl;have e:i*D5.c+0=i:=by show i*1+0=i;omega
 rwa [e]at this
theorem D5.put{g:Nat}(h:Row D5 w (Jn g n cap) xs){x:Int}(y:Int)(hx:xs[i]?=some x):Row D5 (w.setCell (J g i) (I y)) (Jn g n cap) (xs.set i y):=by
 have:=h.put i 0 hx (x':=y) (u:=I y) (by decide) rfl;have e:i*D5.c+0=i:=by show i*1+0=i;omega
 rwa [e]at this
theorem WB(a:List UInt8):(⟨a.toArray⟩:ByteArray).toList.isEmpty=a.isEmpty:=by
 rw[toList_data]
theorem UD(w:World)(s:M2.Stp):J1 145 #[.agg #[I s.fr,I s.tt,I s.l,.string ⟨s.s0.toArray⟩,.string ⟨s.s1.toArray⟩]] w fun e w'=>e=.returned (.bool (M2.silent s))∧Mod No w w':=by
 have e0:=WB s.s0;have e1:=WB s.s1;unfold M2.silent;generalize (⟨s.s0.toArray⟩:ByteArray)=A at *;generalize (⟨s.s1.toArray⟩:ByteArray)=B at *;have HM:Hd (∀o,Mod No w (w.alloc o)):=fun o=>(Mod.refl _ _).alloc o
 have HB:=qH e1
 cases hb:s.s0.isEmpty with
 | false=>
  rw[hb]at e0;have e2:¬A.toList=[]:=fun e=>by rw[e]at e0;cases e0
  go_enter func145,ntmps145;go_wp2;go_ret;exact⟨rfl,HM.o _⟩
 | true=>
  rw[hb]at e0;have e2:A.toList=[]:=by simpa using e0
  go_enter func145,ntmps145;go_wp2;go_ret;exact⟨by rw[<-HB.o];rfl,HM.o _⟩
end
end Go.Proofs.YtoebidlghdidoaaGreatDoor
