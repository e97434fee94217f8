import Derived.Test.YtoebidlghdidoaaGreatDoorAP
import Derived.Lib.AppendStr
set_option maxHeartbeats 4000000
set_option maxRecDepth 100000
namespace Go.Proofs.YtoebidlghdidoaaGreatDoor
open M2 Tryz List Go.RowKit
attribute [local go_sem ↓] Go.wp_at_zero Go.wp_at_succ
variable {v2:Value} {w7:World}
theorem aFc(w:World)(A B C D:Obj):((((w.alloc A).alloc B).alloc C).alloc D).heap[w.heap.size]?=some A∧((((w.alloc A).alloc B).alloc C).alloc D).heap[w.heap.size+1]?=some B∧((((w.alloc A).alloc B).alloc C).alloc D).heap[w.heap.size+1+1]?=some C∧((((w.alloc A).alloc B).alloc C).alloc D).heap[w.heap.size+1+1+1]?=some D:=by
 refine⟨?_,?_,?_,?_⟩
 ·rw[Below.heap_alloc _ _ _ (by simp;try omega)];exact vV w A B C
 ·rw[Below.heap_alloc _ _ _ (by simp;try omega)];exact tu w A B C
 ·rw[Below.heap_alloc _ _ _ (by simp;try omega)];exact uD w A B C
 ·simpa using heap_alloc_new (((w.alloc A).alloc B).alloc C) D
theorem La(w:World)(vx vh vo:Value)(cn:Nat)(a:M2.Auto)(of:List Nat)(hx:Row nC w vx a.nx)(hh:Row lD w vh a.hit)(ho:Row dh w vo of)(hl1:a.nx.length=of.length)(hl2:a.hit.length=of.length)(hl:of.length<=300000){b:M2.Auto}(hM:jv of of a.nx a.hit ⟨[],[]⟩=some b):J1 87 #[.agg #[vx,vh],.agg #[vo,I cn]] w fun e w'=>GV b w e w':=by
 obtain⟨xa,uT,uV,hxa,-,-⟩:=hx.any;obtain⟨ha,hcap,uU,hha,-,-⟩:=hh.any;obtain⟨oa,aGo,hvo,hoa,-,-⟩:=ho.any;rw[hl1]at uV;rw[hl2]at uU;obtain⟨n,hn⟩:=eX of.length;rw[<-hn]at uV uU hvo hl hl1 hl2;have HX:=qH hx;have HH:=qH hh;have HO:=qH ho;have HL1:=qH hl1;have HL2:=qH hl2;have HN:=qH hn;have HM:=qH hM;have NK:=qH uV;have NM:=qH uU;have HVO:=qH hvo;clear hx hh ho hl1 hl2 hn hM;have HI0:Hd (∀A B C D,A=Obj.cells #[vx,vh] 138->B=Obj.cells #[vo,I cn] 194->C=Obj.cells #[.slice none 0 0,.slice none 0 0] 138->D=Obj.cells #[.slice none 0 0,.slice none 0 0] 138->TI w w.heap.size vx vh vo cn (.slice none 0 0) (.slice none 0 0) ⟨[],[]⟩ ((((w.alloc A).alloc B).alloc C).alloc D)):=by
  intro A B C D hA hB hC hD;have h4:=aFc w A B C D;have hmd:Mod No w ((((w.alloc A).alloc B).alloc C).alloc D):=((((Mod.refl _ _).alloc _).alloc _).alloc _).alloc _;generalize ((((w.alloc A).alloc B).alloc C).alloc D)=W at h4 hmd ⊢;subst hA hB hC hD;exact⟨h4.1,h4.2.1,h4.2.2.1,h4.2.2.2,Row.nil _ _,Row.nil _ _,hmd,(fun g hg=>by cases hg),(fun g hg=>by cases hg),dH _⟩
 rw[NK.o,NM.o,HVO.o];rw[NK.o,NM.o,HVO.o]at HI0;go_enter func87,ntmps87;go_wp2_with fail;rw[<-NK.o,<-NM.o,<-HVO.o]at HI0;go_loopg [14] n (fun gh v14 wr=>∃(i:Nat) (lx lh:Value) (au:M2.Auto),i<=n∧gh=n-i∧v14=I i∧TI w w.heap.size vx vh vo cn lx lh au wr∧au.nx.length<=i∧au.nx.length=au.hit.length∧jv of (of.drop i) (a.nx.drop i) (a.hit.drop i) au=some b)
 case atStart=>exact⟨0,_,_,⟨[],[]⟩,by omega,by omega,rfl,by have h:=HI0.o _ _ _ _ rfl rfl rfl rfl;rw[NK.o,NM.o,HVO.o]at h ⊢;exact h,by simp,rfl,HM.o⟩
 case round=>
  obtain⟨i,lx,lh,au,hi,hgk,rfl,hI,hal,hah,NF⟩:=hrel;obtain⟨ya,zo,hlx,-,-,-⟩:=hI.nx.any;obtain⟨za,aAk,hlh,-,-,-⟩:=hI.hit.any;rw[<-hah]at hlh;generalize hln:au.nx.length=ln at hlx hlh hal;have Ce:Hd (au.nx.length=ln∧au.hit.length=ln):=⟨hln,by omega⟩;have Lc:=qH hlx;have TL:=qH hlh;have HI:=qH hI;have a0:=hI.L9.cell 0 rfl;have a1:=hI.L9.cell 1 rfl;have b0:=hI.TK.cell 0 rfl;have d0:=hI.kK.cell 0 rfl;have d1:=hI.kK.cell 1 rfl;rw[NK.o]at a0;rw[NM.o]at a1;rw[HVO.o]at b0;rw[hlx]at d0;rw[hlh]at d1;by_cases hlt:i<n
  ·obtain⟨x,hxi⟩:∃x,of[i]?=some x:=⟨of[i]'(by have:=HN.o;omega),bG _⟩;obtain⟨r,IZ⟩:∃r,a.nx[i]?=some r:=⟨a.nx[i]'(by have:=HL1.o;omega),bG _⟩;obtain⟨hb,hbi⟩:∃hb,a.hit[i]?=some hb:=⟨a.hit[i]'(by have:=HL2.o;omega),bG _⟩;have e1:of.drop i=x::of.drop (i+1):=by obtain⟨h1,rfl⟩:=bU hxi;exact kJ h1
   have e2:a.nx.drop i=r::a.nx.drop (i+1):=by obtain⟨h1,rfl⟩:=bU IZ;exact kJ h1
   have e3:a.hit.drop i=hb::a.hit.drop (i+1):=by obtain⟨h1,rfl⟩:=bU hbi;exact kJ h1
   rw[e1,e2,e3]at NF;have htc:=aAj _ _ _ _ _ _ _ _ _ NF;rw[hln]at htc;obtain⟨go,rfl⟩:∃go,oa=some (J go 0):=by
    rcases hoa with rfl | ⟨go,rfl,_⟩
    ·rcases HO.o.2 with ⟨_,h2⟩ | ⟨g1,cap',cur,h,_⟩
     ·have:=HN.o;omega
     ·rw[HVO.o]at h;cases h
    ·exact⟨go,rfl⟩
   have hoi:=HO.o.no hI.md;rw[HVO.o]at hoi;have cx:=dh.cell hoi hxi;have hilt:(i:Int)<n:=by omega
   by_cases hxl:x<ln
   ·rw[aP hxl]at htc;have aGs:(x:Int)<ln:=by omega
    have HTC:=qH htc;go_wp2;go_roundg (n-(i+1))
    case measure=>omega
    case rel=>exact⟨i+1,lx,lh,au,by omega,rfl,by go_num,HI.o,by have:=Ce.o.1;omega,by have:=Ce.o;omega,HTC.o⟩
   ·rw[aU hxl]at htc;obtain⟨Nv,hNv,htc⟩:=htc;have aGs:¬(x:Int)<ln:=by omega
    obtain⟨gx,rfl⟩:∃gx,xa=some (J gx 0):=by
     rcases hxa with rfl | ⟨gx,rfl,_⟩
     ·rcases HX.o.2 with ⟨_,h2⟩ | ⟨g1,cap',cur,h,_⟩
      ·have:=HL1.o;omega
      ·rw[NK.o]at h;cases h
     ·exact⟨gx,rfl⟩
    have TM:=HX.o.no hI.md;rw[NK.o]at TM;have q0:wr.cell? (J gx (i*4))=some (I r.a):=TM.cell i 0 IZ rfl;have q1:wr.cell? (J gx (i*4+1))=some (I r.b):=TM.cell i 1 IZ rfl;have q2:wr.cell? (J gx (i*4+2))=some (I r.c):=TM.cell i 2 IZ rfl;have q3:wr.cell? (J gx (i*4+3))=some (I r.d):=TM.cell i 3 IZ rfl;have XQ:=hI.md.size;have hxQ:lx.ownBlock≠some wr.heap.size:=fun e=>by have:=hI.nx.lt e;omega
    obtain⟨W2,hW2⟩:∃W2,wr.alloc (.cells #[I 0,I 0,I 0,I 0] 102)=W2:=⟨_,rfl⟩;have hm2:Mod No wr W2:=by rw[<-hW2];exact(Mod.refl _ _).alloc _
    have HI2:Hd (TI w w.heap.size vx vh vo cn lx lh au W2∧aG W2 wr.heap.size (qc Nv 0) 102):=⟨hI.no hm2,by rw[<-hW2];exact heap_alloc_new wr _⟩;have aAl:=TM.no hm2;have p0:W2.cell? (J gx (i*4))=some (I r.a):=aAl.cell i 0 IZ rfl;have p1:W2.cell? (J gx (i*4+1))=some (I r.b):=aAl.cell i 1 IZ rfl;have p2:W2.cell? (J gx (i*4+2))=some (I r.c):=aAl.cell i 2 IZ rfl;have p3:W2.cell? (J gx (i*4+3))=some (I r.d):=aAl.cell i 3 IZ rfl;have c2:=HI2.o.1.L9.cell 0 rfl;rw[NK.o]at c2;have HNV:=qH hNv;have HTC:=qH htc;have HBI:=qH hbi;go_wp2_with fail;generalize wr.heap.size=Q at HI2 XQ hxQ ⊢;go_loopg [29] 4 (fun h v29 wx=>∃l:Nat,v29=I l∧l<=4∧h=4-l∧TI w w.heap.size vx vh vo cn lx lh au wx∧aG wx Q (qc Nv l) 102)
    case atStart=>exact⟨0,rfl,by omega,rfl,HI2.o.1,HI2.o.2⟩
    case round=>
     obtain⟨l,rfl,hl4,hh4,hI,hQ⟩:=hrel;have HI:=qH hI;have HQ:=qH hQ;by_cases TN:l<4
     ·have yZ:(l:Int)<4:=by omega
      have hnv:=HNV.o l TN;have hTn:TF r l<n:=by have:=(bU hnv).1;rw[<-HN.o]at this;exact this
      have ix:=aGr r l TN;have hoi:=HO.o.no hI.md;rw[HVO.o]at hoi;have ct:=dh.cell hoi hnv;have b0:=hI.TK.cell 0 rfl;rw[HVO.o]at b0;generalize TF r l=T at ix ct hTn;have hTi:(T:Int)<n:=by omega
      obtain⟨qv,hqv⟩:∃v,(qc Nv l)[l]?=some v:=⟨(qc Nv l)[l]'(by simp[qc];omega),bG _⟩;have cq:=hQ.cell l hqv;have fq:=hQ.free l;go_wp2;go_roundg (4-(l+1))
      case measure=>omega
      case rel=>exact⟨l+1,by go_num,by omega,rfl,HI.o.put HQ.o XQ hxQ l _,by rw[<-TD Nv l TN];exact HQ.o.set l _⟩
     ·obtain rfl:l=4:=by omega
      obtain⟨i0,af,hz0,hz1,hz2⟩:=info_parts aIC;have d0:=hI.kK.cell 0 rfl;have e0:=hI.kK.free 0;rw[Lc.o]at d0;change aG wr Q [I (Nv 0:Int),I (Nv 1:Int),I (Nv 2:Int),I (Nv 3:Int)] 102 at hQ;have q0:=hQ.cell 0 rfl;have q1:=hQ.cell 1 rfl;have q2:=hQ.cell 2 rfl;have q3:=hQ.cell 3 rfl;have hown:wr.ownsRow 0 102 4 (.slice ya ln zo) ln (au.nx.flatMap nC.f):=by have:=hI.nx;unfold Row at this;rw[Lc.o,Ce.o.1]at this;exact this
      have aDK:=hI.kK.lt;have aGt:ln<=300000:=by omega
      have hAx:some (w.heap.size+1+1+1)≠lx.ownBlock:=fun e=>hI.kK.apart hI.nx (by decide) e.symm
      rw[Lc.o]at hAx;go_wp2_with (at_builtin;refine wpList_append_lies _ rfl _ _ 80 rfl 0 102 i0 _ 4 32 underlying80 af hz0 hz1 hz2 rfl (by omega) (.slice ya ln zo) ln (au.nx.flatMap nC.f) rfl (hown.alloc _) (J wr.heap.size 0) 1 1 [I (Nv 0:Int),I (Nv 1:Int),I (Nv 2:Int),I (Nv 3:Int)] rfl rfl ?c1 ?c2 (by omega) (by unfold maxLen;omega) (by omega) (by simp) (wr.heap.size+1) (by simp) ?_)
      case c1=>exact World.news_of_block (cs:=#[I (Nv 0:Int),I (Nv 1:Int),I (Nv 2:Int),I (Nv 3:Int)]) (t:=102) (fr:=(0,0)) (heap_alloc_new wr _)
      case c2=>intro u hu;simp at hu;rcases hu with rfl | rfl | rfl | rfl <;> rfl
      intro gg cap2 w7 gV hgrow hat fJ;have Vr:=HI.o.no ((Mod.refl _ _).alloc (.cells #[I (Nv 0:Int),I (Nv 1:Int),I (Nv 2:Int),I (Nv 3:Int)] 102));have Cb:aN (wr.alloc (.cells #[I (Nv 0:Int),I (Nv 1:Int),I (Nv 2:Int),I (Nv 3:Int)] 102)) lx (Jn gg (ln+1) cap2):=by
       intro g1 hg1;cases hg1;rcases hat with h | h
       ·exact Or.inl (by rw[Lc.o];exact h)
       ·exact Or.inr (by simp;show wr.heap.size+1<=gg;omega)
      have vY:Row nC w7 (Jn gg (ln+1) cap2) (au.nx++[⟨Nv 0,Nv 1,Nv 2,Nv 3⟩]):=by
       refine Row.snoc ?_;rw[Ce.o.1];exact gV
      have gU:=Vr.PK (by rw[Lc.o];exact hgrow) vY Cb;have hA7:=Vr.kK.grown hgrow hAx;have a0:=hA7.cell 0 rfl;rw[Lc.o]at a0;have b0:=hA7.free 0;obtain⟨w8,hw8⟩:∃w8,w7.setCell ⟨w.heap.size+1+1+1,0,none⟩ (Jn gg (ln+1) cap2)=w8:=⟨_,rfl⟩;rw[hw8]at gU;obtain⟨v8,hv8⟩:=eX (Jn gg (ln+1) cap2);rw[<-hv8]at gU;have gU:=qH gU;go_wp2;obtain⟨j0,af,hz0,hz1,hz2⟩:=info_parts aIY;obtain⟨gh',rfl⟩:∃gh',ha=some (J gh' 0):=by
       rcases hha with rfl | ⟨gx,rfl,_⟩
       ·rcases HH.o.2 with ⟨_,h2⟩ | ⟨g1,cap',cur,h,_⟩
        ·have:=HL2.o;omega
        ·rw[NM.o]at h;cases h
       ·exact⟨gx,rfl⟩
      have hh8:=HH.o.no gU.o.md;rw[NM.o]at hh8;have ch:=lD.cell hh8 HBI.o;have x1:=gU.o.L9.cell 1 rfl;rw[NM.o]at x1;have d1:=gU.o.kK.cell 1 rfl;rw[TL.o]at d1;have GZ:w8.ownsRow 0 4 1 (.slice za ln aAk) ln (au.hit.flatMap lD.f):=by have:=gU.o.hit;unfold Row at this;rw[TL.o]at this;rw[show (M2.Auto.mk (au.nx++[⟨Nv 0,Nv 1,Nv 2,Nv 3⟩]) au.hit).hit=au.hit from rfl,Ce.o.2]at this;exact this
      have hAh:some (w.heap.size+1+1+1)≠lh.ownBlock:=fun e=>gU.o.kK.apart gU.o.hit (by decide) e.symm
      rw[TL.o]at hAh;have F1:=gU.o.kK.dQ 1;have K1:=gU.o.kK.aS 1 rfl;rw[TL.o]at K1;have hA8:=gU.o.kK.lt;have aFd:(i:Int)<n:=by omega
      go_region_law (refine step_append_lies _ (by rfl) _ _ _ (by rfl) 0 4 j0 _ 1 1 underlying118 af hz0 hz1 hz2 rfl (by omega) (.slice za ln aAk) ln (au.hit.flatMap lD.f) (by rfl) ((GZ.alloc _).drew) (J w8.heap.size 0) 1 1 [.bool hb] (by rfl) (by rfl) (World.news_of_block (cs:=#[.bool hb]) (t:=4) (fr:=(0,0)) (heap_alloc_new w8 _)) (by intro u hu;simp at hu;rw[hu];rfl) (by omega) (by unfold maxLen;omega) (by omega) (by simp) (w8.heap.size+1) (by simp) ?_;intro g2 cap3 w10 vZ jW Cc G5;have s0:=(jW.cell_far ⟨w.heap.size+1+1+1,1,none⟩ (by simp;omega) hAh).trans (K1 _);have s1:=(jW.frozen_far ⟨w.heap.size+1+1+1,1,none⟩ (by simp;omega) hAh).trans (F1 _))
      all_goals
       have PU:aN (w8.alloc (.cells #[.bool hb] 4)).drew lh (Jn g2 (ln+1) cap3):=by
        intro g1 hg1;cases hg1;rcases Cc with h | h
        ·exact Or.inl (by rw[TL.o];exact h)
        ·exact Or.inr (by show (w8.alloc (.cells #[.bool hb] 4)).heap.size<=g2;simp;omega)
       have PW:Row lD w10 (Jn g2 (ln+1) cap3) (au.hit++[hb]):=by
        refine Row.snoc ?_;rw[Ce.o.2];exact vZ
       have aAe:Hd (TI w w.heap.size vx vh vo cn v8 (Jn g2 (ln+1) cap3) ⟨au.nx++[⟨Nv 0,Nv 1,Nv 2,Nv 3⟩],au.hit++[hb]⟩ (w10.setCell ⟨w.heap.size+1+1+1,1,none⟩ (Jn g2 (ln+1) cap3))):=(gU.o.no (((Mod.refl _ _).alloc (.cells #[.bool hb] 4)).drew)).PL (by rw[TL.o];exact jW) PW PU;go_wp2;go_roundg (n-(i+1))
       case measure=>omega
       case rel=>exact⟨i+1,v8,_,⟨au.nx++[⟨Nv 0,Nv 1,Nv 2,Nv 3⟩],au.hit++[hb]⟩,by omega,rfl,by go_num,aAe.o,by simp;have:=Ce.o.1;omega,by simp;have:=Ce.o;omega,HTC.o⟩
  ·obtain rfl:i=n:=by omega
   rw[drop_of_length_le (by have:=HN.o;omega),jv]at NF;obtain rfl:=dY NF;have r0:=hI.res.cell 0 rfl;have r1:=hI.res.cell 1 rfl;have f0:=hI.res.free 0;have f1:=hI.res.free 1;go_wp2;refine bodyPost_ret (v:=.agg #[.slice ya ln zo,.slice za ln aAk]) (by simp[results,results87,go_sem,r0,r1]) rfl ⟨?_,lx,lh,by rw[Lc.o,TL.o],?_,?_,HI.o.ox,HI.o.oh,by have:=Ce.o;omega,by have:=Ce.o.1;omega⟩
   ·exact(HI.o.md.setCell (a:=⟨w.heap.size+1+1,0,none⟩) (fun h=>absurd h (by simp;omega)) _).setCell (a:=⟨w.heap.size+1+1,1,none⟩) (fun h=>absurd h (by simp;omega)) _
   ·have h1:=HI.o.res.apart HI.o.nx (by decide);exact(HI.o.nx.other (a:=⟨w.heap.size+1+1,0,none⟩) h1 _).other (a:=⟨w.heap.size+1+1,1,none⟩) h1 _
   ·have h1:=HI.o.res.apart HI.o.hit (by decide);exact(HI.o.hit.other (a:=⟨w.heap.size+1+1,0,none⟩) h1 _).other (a:=⟨w.heap.size+1+1,1,none⟩) h1 _
theorem G9(ps:List aI.Place)(wh:aI.Piece):∀(f i:Nat) (m:M2.Meet) (au a:M2.Auto),kQ ps wh f i m au=some a->au.nx.length<=a.nx.length
 | 0,i,m,au,a,h=>by rw[kQ]at h;cases h
 | f+1,i,m,au,a,h=>by
  rw[kQ]at h
  cases hm:m.met[i]? with
  | none=>rw[hm]at h;cases h;exact dH _
  | some st=>
   rw[hm]at h
   dsimp only at h
   generalize M2.four (fun l m=>dZ m (oL ps wh st l)) m=y at h
   cases y with
   | none=>cases h
   | some y=>
    have:=G9 ps wh f (i+1) y.2 _ a h;simp at this;omega
theorem aAm{r:aI.Rule}{a:M2.Auto}(h:M2.walk r=some a):0<a.nx.length:=by
 unfold M2.walk at h;split at h
 ·cases h
 ·split at h
  ·cases h
  ·rename_i k m hn;have hmet:∃s0,m.met[0]?=some s0:=by
    unfold dZ at hn;generalize hs:(if r.wh.e=true then fD r.ps else r.wh.f)=s0 at hn
    cases hu:(replicate (fD r.ps+1) 0)[s0]? with
    | none=>simp[hu]at hn
    | some u=>
     have hu0:u=0:=by have:=iI hu;exact eq_of_mem_replicate this
     subst hu0;simp only[hu,Option.some.injEq,Prod.mk.injEq]at hn;obtain⟨-,rfl⟩:=hn;exact⟨s0,by simp⟩
   obtain⟨s0,hs0⟩:=hmet;rw[kQ,hs0]at h
   dsimp only at h
   generalize M2.four (fun l m=>dZ m (oL r.ps r.wh s0 l)) m=y at h
   cases y with
   | none=>cases h
   | some y=>
    have:=G9 _ _ _ _ _ _ _ h;simp at this;omega
theorem vz(nx:List aI.R4)(most:Nat):∀(f:Nat) (c r:List Nat × Nat),M2.aV nx most f c=some r->r.1.length=c.1.length
 | 0,c,r,h=>by rw[M2.aV]at h;cases h;rfl
 | f+1,c,r,h=>by
  rw[M2.aV]at h;split at h
  ·cases h;rfl
  ·split at h
   ·cases h
   ·rename_i c2 hs;rw[vz nx most f c2 r h,Jb hs]
theorem Gf(nx:List aI.R4)(most:Nat):∀(f:Nat) (c r:List Nat × Nat),eU nx most f c=some r->r.1.length=c.1.length
 | 0,c,r,h=>by rw[eU]at h;cases h
 | f+1,c,r,h=>by
  rw[eU]at h;split at h
  ·cases h;rfl
  ·split at h
   ·cases h
   ·rename_i c2 hs;split at h
    ·obtain rfl:=dY h;exact vz nx most 4 c _ hs
    ·rw[Gf nx most f c2 r h,vz nx most 4 c c2 hs]
theorem XY(a:M2.Auto):(iJ a).1.length=a.hit.length∧(iJ a).2<=2:=by
 rw[PX];refine⟨PY _ _ _ (dH _),?_⟩;show bhC _ _ _<=2;unfold bhC;split <;> omega
def Jc(res:Option M2.Auto)(w:World)(e:Ending)(w':World):Prop:=Mod No w w'∧(match res with
  | none=>e=.returned (.tuple #[.agg #[.slice none 0 0,.slice none 0 0],.bool false])
  | some b=>∃vx vh,e=.returned (.tuple #[.agg #[vx,vh],.bool true])∧Row nC w' vx b.nx∧Row lD w' vh b.hit∧(∀g,vx.ownBlock=some g->w.heap.size<=g)∧(∀g,vh.ownBlock=some g->w.heap.size<=g)∧b.nx.length=b.hit.length∧b.nx.length<=300000)
theorem XZ(w:World)(vp:Value)(base:Nat)(r:aI.Rule)(hok:DR w base r vp){res:Option M2.Auto}(hM:jM r=some res):J1 54 #[yL vp r.wh] w fun e w'=>Jc res w e w':=by
 unfold jM at hM
 cases hw:M2.walk r with
 | none=>rw[hw]at hM;cases hM
 | some a=>
  rw[hw]at hM
  dsimp only at hM
  cases hrf:eU a.nx 60 100 (iJ a)with
  | none=>rw[hrf]at hM;cases hM
  | some c=>
   rw[hrf]at hM
   dsimp only at hM
   have hpos:=aAm hw;have hbl:=XY a;have hrl:=Gf _ _ _ _ _ hrf;have HW:Hd (∀o1 o2,J1 84 #[yL vp r.wh] ((w.alloc o1).alloc o2) fun e w'=>GV a ((w.alloc o1).alloc o2) e w'):=fun o1 o2=>walk_any _ vp base r (hok.mod (((Mod.refl No _).alloc _).alloc _) fun _ _ x=>x) hw
   have HB:=qH fun wx vx vh (h1:Row nC wx vx a.nx) (h2:Row lD wx vh a.hit) (h3:a.nx.length=a.hit.length) (h4:a.nx.length<=300000)=>XT wx vx vh a h1 h2 (by omega) (by omega)
   have HR:Hd (∀wx vo vn,Row dh wx vo (iJ a).1->Row nC wx vn a.nx->a.nx.length=a.hit.length->a.nx.length<=300000->J1 86 #[.agg #[vo,I ((iJ a).2:Int)],vn,I 60] wx fun e w'=>aAh c.1 c.2 wx e w'):=fun wx vo vn h1 h2 h3 h4=>G8 wx vo vn _ _ 60 a.nx h1 h2 (by omega) (by omega) hpos h4 (by rw[hbl.1,h3]) hrf
   have HT:=qH fun wx vx vh vo cn b (h1:Row nC wx vx a.nx) (h2:Row lD wx vh a.hit) (h3:Row dh wx vo c.1) (h4:a.nx.length=a.hit.length) (h5:a.nx.length<=300000) (h6:jv c.1 c.1 a.nx a.hit ⟨[],[]⟩=some b)=>La wx vx vh vo cn a c.1 h1 h2 h3 (by rw[hrl,hbl.1,h4]) (by rw[hrl,hbl.1]) (by rw[hrl,hbl.1,<-h4];exact h5) h6
   obtain⟨va,kP,hvp,-,-,-⟩:=hok.row.any;generalize r.ps.length=n0 at hvp;generalize (iJ a).1=of0 at HB HR;generalize (iJ a).2=c0 at HB HR;obtain⟨of1,c1⟩:=c
   dsimp only at hM HR HT
   have HM:Hd ((if 60<c1 then some none else (jv of1 of1 a.nx a.hit ⟨[],[]⟩).map some)=some res):=hM;subst hvp;unfold yL at *;generalize r.wh=x at *;go_enter func54,ntmps54;go_wp2_with fail;refine(HW.o _ _).mono ?_;rintro e w1 ⟨m1,vx,vh,rfl,hx1,hh1,ox,oh,hl1,hl2⟩;have hR1:=aG.mod (fE w _ _) m1 (fun x=>x);have hm1:Mod No w w1:=(((Mod.refl _ _).alloc _).alloc _).no m1;obtain⟨xa,uT,uV,-,-,-⟩:=hx1.any;obtain⟨ya,zo,uU,-,-,-⟩:=hh1.any;generalize hln:a.nx.length=ln at uV hl1 hl2 HB HR HT;generalize hlh:a.hit.length=lh at uU hl1 HB HR HT;have NK:=qH uV;have NM:=qH uU;have HLL:=qH (a2 hl1 hl2);have H1:=qH (a4 hR1 hm1 hx1 hh1);rw[uV,uU];have hcB:=fun o=>HB.o (w1.alloc o) vx vh (hx1.alloc o) (hh1.alloc o) hl1 hl2
   rw[uV,uU]at hcB;clear hR1 hm1 hx1 hh1 m1 uV uU hln hlh ox oh hl1 hl2 HB;have HCB:=qH hcB;go_wp2_with fail;refine(HCB.o _).mono ?_;rintro e w2 ⟨m2,v2,rfl,hr2,ho2⟩;have hA2:=aG.mod (heap_alloc_new w1 _) m2 (fun x=>x);have BF:Mod No w1 w2:=((Mod.refl _ _).alloc _).no m2;obtain⟨za,aAk,hv2,-,-,-⟩:=hr2.any;generalize hl0:of0.length=l0 at hv2;have hcR:=fun o=>HR.o (w2.alloc o) v2 vx (hr2.alloc o) ((H1.o.2.2.1.no BF).alloc o) HLL.o.1 HLL.o.2
   rw[hv2,NK.o]at hcR;have HCR:=qH hcR;have HA2:=qH (a2 hA2 BF);have aDK:=hA2.lt;have a0:=hA2.aS 0 rfl;have aHF:¬w1.heap.size=w2.heap.size:=by omega
   rw[hv2];go_wp2_with fail;refine(HCR.o _).mono ?_;rintro e w3 ⟨m3,v3,rfl,hr3⟩;have TP:Mod No w2 w3:=((Mod.refl _ _).alloc _).no m3;have hA3:=HA2.o.1.mod TP (fun x=>x);have GY:=(H1.o.1.mod HA2.o.2 (fun x=>x)).mod TP (fun x=>x);have aCa:=(H1.o.2.1.no HA2.o.2).no TP;obtain⟨ua,aAd,hv3,-,-,-⟩:=hr3.any;generalize hl3:of1.length=l3 at hv3;have HM':=HM.o;have HR3:=qH (a2 GY aCa);have aHG:=GY.lt;have aEY:¬w.heap.size+1=w3.heap.size:=by omega
   by_cases h60:60<c1
   ·rw[aP h60]at HM';obtain rfl:=dY HM';have aGu:(60:Int)<(c1:Int):=by omega
    obtain⟨w5,hw5⟩:∃w5,w3.alloc (.cells #[.slice ua l3 aAd,I c1] 194)=w5:=⟨_,rfl⟩;have iH:aG w5 (w.heap.size+1) [.slice none 0 0,.slice none 0 0] 138:=by rw[<-hw5];exact GY.alloc _
    have HM5:Hd (Mod No w w5):=qH <| by rw[<-hw5];exact aCa.alloc _
    have k5:w5.cell? (J w3.heap.size 1)=some (I c1):=by rw[<-hw5];exact aG.cell (cs:=[.slice ua l3 aAd,I c1]) (heap_alloc_new w3 _) 1 rfl
    have R0:=iH.cell 0 rfl;have R1:=iH.cell 1 rfl;have F0:=iH.free 0;have F1:=iH.free 1;rw[hv3];go_wp2;refine bodyPost_ret (v:=.tuple #[.agg #[.slice none 0 0,.slice none 0 0],.bool false]) (by simp[results,results54,go_sem,R0,R1]) rfl ⟨?_,rfl⟩;exact(HM5.o.setCell (a:=⟨w.heap.size+1,0,none⟩) (fun h=>absurd h (by simp)) _).setCell (a:=⟨w.heap.size+1,1,none⟩) (fun h=>absurd h (by simp)) _
   ·rw[aU h60]at HM';have aGu:¬(60:Int)<(c1:Int):=by omega
    cases NF:jv of1 of1 a.nx a.hit ⟨[],[]⟩ with
    | none=>rw[NF]at HM';cases HM'
    | some b=>
     rw[NF]at HM';obtain rfl:=dY HM';have hcT:=fun o=>HT.o (w3.alloc o) vx vh v3 c1 b ((((H1.o.2.2.1.no HA2.o.2).no TP).alloc o)) ((((H1.o.2.2.2.no HA2.o.2).no TP).alloc o)) (hr3.alloc o) HLL.o.1 HLL.o.2 NF
     rw[NK.o,NM.o,hv3]at hcT;have HCT:=qH hcT;have A0:=hA3.aS 0 rfl;have A1:=hA3.aS 1 rfl;have aHi:¬w1.heap.size=w3.heap.size:=by have:=hA3.lt;omega
     rw[hv3];go_wp2_with fail;refine(HCT.o _).mono ?_;rintro e w4 ⟨m4,vx4,vh4,rfl,hx4,hh4,ox4,oh4,aFe,aFf⟩;have P6:Mod No w3 w4:=((Mod.refl _ _).alloc _).no m4;have I8:=HR3.o.1.mod P6 (fun x=>x);have aFg:=HR3.o.2.no P6;obtain⟨pa,aCb,hp,-,-,-⟩:=hx4.any;obtain⟨qa,aCc,hq,-,-,-⟩:=hh4.any;have H4:Hd (aG w4 (w.heap.size+1) [.slice none 0 0,.slice none 0 0] 138∧Mod No w w4∧Row nC w4 vx4 b.nx∧Row lD w4 vh4 b.hit∧(∀g,vx4.ownBlock=some g->w.heap.size<=g)∧(∀g,vh4.ownBlock=some g->w.heap.size<=g)∧b.nx.length=b.hit.length∧b.nx.length<=300000):=⟨I8,aFg,hx4,hh4,fun g hg=>Nat.le_trans (by have:=HR3.o.2.size;simp;omega) (ox4 g hg),fun g hg=>Nat.le_trans (by have:=HR3.o.2.size;simp;omega) (oh4 g hg),aFe,aFf⟩;have R0:=I8.cell 0 rfl;have R1:=I8.cell 1 rfl;have F0:=I8.free 0;have F1:=I8.free 1;generalize b.nx.length=lp at hp;generalize b.hit.length=lq at hq;have HP:=qH (a2 hp hq);rw[hp,hq];go_wp2;refine bodyPost_ret (v:=.tuple #[.agg #[.slice pa lp aCb,.slice qa lq aCc],.bool true]) (by simp[results,results54,go_sem,R0,R1]) rfl ⟨?_,vx4,vh4,by rw[HP.o.1,HP.o.2],?_,?_,H4.o.2.2.2.2.1,H4.o.2.2.2.2.2.1,H4.o.2.2.2.2.2.2.1,H4.o.2.2.2.2.2.2.2⟩
     ·exact(H4.o.2.1.setCell (a:=⟨w.heap.size+1,0,none⟩) (fun h=>absurd h (by simp)) _).setCell (a:=⟨w.heap.size+1,1,none⟩) (fun h=>absurd h (by simp)) _
     ·have h1:=H4.o.1.apart H4.o.2.2.1 (by decide);exact(H4.o.2.2.1.other (a:=⟨w.heap.size+1,0,none⟩) h1 _).other (a:=⟨w.heap.size+1,1,none⟩) h1 _
     ·have h1:=H4.o.1.apart H4.o.2.2.2.1 (by decide);exact(H4.o.2.2.2.1.other (a:=⟨w.heap.size+1,0,none⟩) h1 _).other (a:=⟨w.heap.size+1,1,none⟩) h1 _
structure AI(w:World)(b X:Nat)(DT DU ux uh:Value)(c:M2.Auto)(lx lh:Value)(au:M2.Auto)(wr:World):Prop where
 box:aG wr X [ux,uh] 138
 kK:aG wr b [lx,lh] 138
 nx:Row nC wr lx au.nx
 hit:Row lD wr lh au.hit
 rx:Row nC wr ux c.nx
 rh:Row lD wr uh c.hit
 md:Mod (fun k=>k=b∨DT.ownBlock=some k∨DU.ownBlock=some k) w wr
 fx:aN w DT lx
 fh:aN w DU lh
 nux:∀g,lx.ownBlock=some g->ux.ownBlock≠some g
 nuh:∀g,lh.ownBlock=some g->uh.ownBlock≠some g
 nXb:X≠b
 oX:w.heap.size<=X
section
variable {w:World} {b X:Nat} {DT DU ux uh:Value} {c:M2.Auto} {lx lh:Value} {au:M2.Auto} {wr wr':World}
theorem AI.no(h:AI w b X DT DU ux uh c lx lh au wr)(hm:Mod No wr wr'):AI w b X DT DU ux uh c lx lh au wr':=⟨h.box.mod hm (fun x=>x),h.kK.mod hm (fun x=>x),h.nx.no hm,h.hit.no hm,h.rx.no hm,h.rh.no hm,h.md.no hm,h.fx,h.fh,h.nux,h.nuh,h.nXb,h.oX⟩
theorem AI.put{Q:Nat}{cs:List Value}(h:AI w b X DT DU ux uh c lx lh au wr)(hQ:aG wr Q cs 102)(h0:w.heap.size<=Q)(hx:lx.ownBlock≠some Q)(hu:ux.ownBlock≠some Q)(j:Nat)(v:Value):AI w b X DT DU ux uh c lx lh au (wr.setCell (J Q j) v):=⟨h.box.other (a:=J Q j) (fun e=>hQ.diff h.box (by decide) e.symm) _,h.kK.other (a:=J Q j) (fun e=>hQ.diff h.kK (by decide) e.symm) _,h.nx.other (a:=J Q j) hx _,h.hit.other (a:=J Q j) (hQ.apart h.hit (by decide)) _,h.rx.other (a:=J Q j) hu _,h.rh.other (a:=J Q j) (hQ.apart h.rh (by decide)) _,h.md.setCell (a:=J Q j) (fun e=>absurd e (by simp;omega)) _,h.fx,h.fh,h.nux,h.nuh,h.nXb,h.oX⟩
theorem Gg{v0 v1:Value}(h:aN w v0 v1)(hs:w.heap.size<=wr.heap.size)(h2:aN wr v1 v2):aN w v0 v2:=h.trans h2 hs
theorem AI.PK{XF:List aI.R4}(h:AI w b X DT DU ux uh c lx lh au wr)(hg:wr.grownBy w7 lx.ownBlock)(hrow:Row nC w7 v2 XF)(hf:aN wr lx v2):AI w b X DT DU ux uh c v2 lh ⟨XF,au.hit⟩ (w7.setCell (J b 0) v2):=by
 have kb:∀{b:Nat} {cs:List Value} {T:Nat},aG wr b cs T->T≠102->aG w7 b cs T:=fun hb ht=>hb.grown hg (fun e=>hb.apart h.nx ht e.symm)
 have kr:∀{v:Value} {xs:List Bool},Row lD wr v xs->Row lD w7 v xs:=fun {v xs} hr=>hr.grown hg (by
  cases e:v.ownBlock with
  | none=>exact .inl rfl
  | some g=>exact .inr fun e2=>hr.apart h.nx (by decide) e e2.symm)
 have hA:=kb h.kK (by decide);have hrx:Row nC w7 ux c.nx:=h.rx.grown hg (by
  cases e:ux.ownBlock with
  | none=>exact .inl rfl
  | some g=>exact .inr fun e2=>h.nux g e2.symm e)
 have sH:Mod (fun k=>k=b∨DT.ownBlock=some k∨DU.ownBlock=some k) w w7:=h.md.grown hg fun g e hlt=>by
  rcases h.fx g e with h1 | h1
  ·exact Or.inr (Or.inl h1)
  ·omega
 refine⟨(kb h.box (by decide)).other (a:=J b 0) h.nXb _,hA.set 0 v2,hrow.other (a:=J b 0) (hA.apart hrow (by decide)) _,(kr h.hit).other (a:=J b 0) (hA.apart (kr h.hit) (by decide)) _,hrx.other (a:=J b 0) (hA.apart hrx (by decide)) _,(kr h.rh).other (a:=J b 0) (hA.apart (kr h.rh) (by decide)) _,sH.setCell (a:=J b 0) (fun _=>Or.inl rfl) _,Gg h.fx h.md.size hf,h.fh,fun g e1 e2=>?_,h.nuh,h.nXb,h.oX⟩
 rcases hf g e1 with h1 | h1
 ·exact h.nux g h1 e2
 ·have:=h.rx.lt e2;omega
theorem AI.PL{ht2:List Bool}(h:AI w b X DT DU ux uh c lx lh au wr)(hg:wr.grownBy w7 lh.ownBlock)(hrow:Row lD w7 v2 ht2)(hf:aN wr lh v2):AI w b X DT DU ux uh c lx v2 ⟨au.nx,ht2⟩ (w7.setCell (J b 1) v2):=by
 have kb:∀{b:Nat} {cs:List Value} {T:Nat},aG wr b cs T->T≠4->aG w7 b cs T:=fun hb ht=>hb.grown hg (fun e=>hb.apart h.hit ht e.symm)
 have kr:∀{v:Value} {xs:List aI.R4},Row nC wr v xs->Row nC w7 v xs:=fun {v xs} hr=>hr.grown hg (by
  cases e:v.ownBlock with
  | none=>exact .inl rfl
  | some g=>exact .inr fun e2=>hr.apart h.hit (by decide) e e2.symm)
 have hA:=kb h.kK (by decide);have hrh:Row lD w7 uh c.hit:=h.rh.grown hg (by
  cases e:uh.ownBlock with
  | none=>exact .inl rfl
  | some g=>exact .inr fun e2=>h.nuh g e2.symm e)
 have sH:Mod (fun k=>k=b∨DT.ownBlock=some k∨DU.ownBlock=some k) w w7:=h.md.grown hg fun g e hlt=>by
  rcases h.fh g e with h1 | h1
  ·exact Or.inr (Or.inr h1)
  ·omega
 refine⟨(kb h.box (by decide)).other (a:=J b 1) h.nXb _,hA.set 1 v2,(kr h.nx).other (a:=J b 1) (hA.apart (kr h.nx) (by decide)) _,hrow.other (a:=J b 1) (hA.apart hrow (by decide)) _,(kr h.rx).other (a:=J b 1) (hA.apart (kr h.rx) (by decide)) _,hrh.other (a:=J b 1) (hA.apart hrh (by decide)) _,sH.setCell (a:=J b 1) (fun _=>Or.inl rfl) _,h.fx,Gg h.fh h.md.size hf,h.nux,fun g e1 e2=>?_,h.nXb,h.oX⟩
 rcases hf g e1 with h1 | h1
 ·exact h.nuh g h1 e2
 ·have:=h.rh.lt e2;omega
end
def sc(r:aI.R4)(n l:Nat):List Value:=[I ((if 0<l then r.a+n else r.a:Nat):Int),I ((if 1<l then r.b+n else r.b:Nat):Int),I ((if 2<l then r.c+n else r.c:Nat):Int),I ((if 3<l then r.d+n else r.d:Nat):Int)]
theorem aDN(r:aI.R4)(n l:Nat)(hl:l<4):(sc r n l)[l]?=some (I (TF r l:Int)):=by
 match l,hl with
 | 0,_=>rfl
 | 1,_=>rfl
 | 2,_=>rfl
 | 3,_=>rfl
theorem aDO(r:aI.R4)(n l:Nat)(hl:l<4):(sc r n l).set l (I ((TF r l+n:Nat):Int))=sc r n (l+1):=by
 match l,hl with
 | 0,_=>rfl
 | 1,_=>rfl
 | 2,_=>rfl
 | 3,_=>rfl
def shift(n:Nat)(r:aI.R4):aI.R4:=⟨r.a+n,r.b+n,r.c+n,r.d+n⟩
theorem aCd(a b:M2.Auto):pX a b=⟨a.nx++b.nx.map (shift a.nx.length),a.hit++b.hit⟩:=rfl
theorem aAn(w:World)(b:Nat)(DT DU ux uh:Value)(a c:M2.Auto)(hB:aG w b [DT,DU] 138)(hx:Row nC w DT a.nx)(hh:Row lD w DU a.hit)(hux:Row nC w ux c.nx)(huh:Row lD w uh c.hit)(hnx:∀g,DT.ownBlock=some g->ux.ownBlock≠some g)(hnh:∀g,DU.ownBlock=some g->uh.ownBlock≠some g)(hl:c.nx.length=c.hit.length)(hla:a.nx.length=a.hit.length)(hbig:a.nx.length+c.nx.length<=300000)(hsm:∀r∈c.nx,∀l,l<4->TF r l<=300000):J1 55 #[Jx b 0,.agg #[ux,uh]] w fun e w'=>e=.returned (.tuple #[])∧∃lx lh,AI w b w.heap.size DT DU ux uh c lx lh (pX a c) w':=by
 rw[aCd];obtain⟨xa,uT,uV,-,-,-⟩:=hx.any;obtain⟨ya,zo,hvu,hya,-,-⟩:=hux.any;obtain⟨za,aAk,hvz,hza,-,-⟩:=huh.any;rw[<-hl]at hvz;obtain⟨n,hn⟩:=eX c.nx.length;obtain⟨an,han⟩:=eX a.nx.length;rw[<-hn]at hvu hvz hbig;rw[<-han]at uV hbig ⊢;have HI0:Hd (∀o,o=Obj.cells #[ux,uh] 138->AI w b w.heap.size DT DU ux uh c DT DU a (w.alloc o)):=fun o ho=>⟨by subst ho;exact heap_alloc_new w _,hB.alloc o,hx.alloc o,hh.alloc o,hux.alloc o,huh.alloc o,(Mod.refl _ _).alloc o,aN.refl _ _,aN.refl _ _,hnx,hnh,by have:=hB.lt;omega,dH _⟩
 have HVU:=qH hvu;have HVZ:=qH hvz;have HN:Hd (n=c.nx.length∧n=c.hit.length):=⟨hn,by omega⟩;have HAN:Hd (an=a.nx.length∧an=a.hit.length):=⟨han,by omega⟩;have HSM:=qH hsm;have c0:=hB.aS 0 rfl;rw[uV]at c0;have hneb:¬b=w.heap.size:=by have:=hB.lt;omega
 clear hB hx hh hux huh hnx hnh hl hla hsm hn han uV;rw[hvu,hvz];rw[hvu,hvz]at HI0;clear hvu hvz;go_enter func55,ntmps55;go_wp2_with fail;clear c0;rw[<-HVU.o,<-HVZ.o]at HI0;have HI1:=HI0.o _ rfl;rw[HVU.o,HVZ.o]at HI1;clear HI0;have HI1:=qH HI1;rw[<-HVU.o,<-HVZ.o]at HI1;go_loopg [16] n (fun gh v16 wr=>∃(i:Nat) (lx lh:Value),i<=n∧gh=n-i∧v16=I i∧AI w b w.heap.size DT DU ux uh c lx lh ⟨a.nx++(c.nx.take i).map (shift an),a.hit++c.hit.take i⟩ wr)
 case atStart=>exact⟨0,DT,DU,by omega,by omega,rfl,by have h:=HI1.o;rw[HVU.o,HVZ.o]at h ⊢;simpa using h⟩
 case round=>
  obtain⟨i,lx,lh,hi,hgk,rfl,hI⟩:=hrel;have HL1:Hd ((a.nx++(c.nx.take i).map (shift an)).length=an+i):=qH <| by
   have h1:=HAN.o.1;have h2:=HN.o.1;simp;omega
  have HL2:Hd ((a.hit++c.hit.take i).length=an+i):=qH <| by
   have h1:=HAN.o.2;have h2:=HN.o.2;simp;omega
  obtain⟨pa,aCb,hlx,-,-,-⟩:=hI.nx.any;obtain⟨qa,aCc,hlh,-,-,-⟩:=hI.hit.any;rw[show (M2.Auto.mk (a.nx++(c.nx.take i).map (shift an)) (a.hit++c.hit.take i)).nx.length=an+i from HL1.o]at hlx;rw[show (M2.Auto.mk (a.nx++(c.nx.take i).map (shift an)) (a.hit++c.hit.take i)).hit.length=an+i from HL2.o]at hlh;have Lc:=qH hlx;have TL:=qH hlh;have HI:=qH hI;by_cases hlt:i<n
  ·obtain⟨r,IZ⟩:∃r,c.nx[i]?=some r:=⟨c.nx[i]'(by have:=HN.o.1;omega),bG _⟩;obtain⟨hb,hbi⟩:∃hb,c.hit[i]?=some hb:=⟨c.hit[i]'(by have:=HN.o.2;omega),bG _⟩;obtain⟨gy,rfl⟩:∃gy,ya=some (J gy 0):=by
    rcases hya with rfl | ⟨gy,rfl,_⟩
    ·rcases hI.rx.2 with ⟨_,h2⟩ | ⟨g1,cap',cur,h,_⟩
     ·have:=HN.o.1;omega
     ·rw[HVU.o]at h;cases h
    ·exact⟨gy,rfl⟩
   obtain⟨gz,rfl⟩:∃gz,za=some (J gz 0):=by
    rcases hza with rfl | ⟨gz,rfl,_⟩
    ·rcases hI.rh.2 with ⟨_,h2⟩ | ⟨g1,cap',cur,h,_⟩
     ·have:=HN.o.2;omega
     ·rw[HVZ.o]at h;cases h
    ·exact⟨gz,rfl⟩
   have hrx:=hI.rx;rw[HVU.o]at hrx;have q0:wr.cell? (J gy (i*4))=some (I r.a):=hrx.cell i 0 IZ rfl;have q1:wr.cell? (J gy (i*4+1))=some (I r.b):=hrx.cell i 1 IZ rfl;have q2:wr.cell? (J gy (i*4+2))=some (I r.c):=hrx.cell i 2 IZ rfl;have q3:wr.cell? (J gy (i*4+3))=some (I r.d):=hrx.cell i 3 IZ rfl;have hilt:(i:Int)<n:=by omega
   have XQ:=hI.md.size;have hxQ:lx.ownBlock≠some wr.heap.size:=fun e=>by have:=hI.nx.lt e;omega
   have huQ:ux.ownBlock≠some wr.heap.size:=fun e=>by have:=hI.rx.lt e;omega
   obtain⟨W2,hW2⟩:∃W2,wr.alloc (.cells #[I r.a,I r.b,I r.c,I r.d] 102)=W2:=⟨_,rfl⟩;have hm2:Mod No wr W2:=by rw[<-hW2];exact(Mod.refl _ _).alloc _
   have HI2:Hd (AI w b w.heap.size DT DU ux uh c lx lh ⟨a.nx++(c.nx.take i).map (shift an),a.hit++c.hit.take i⟩ W2∧aG W2 wr.heap.size (sc r an 0) 102):=⟨hI.no hm2,by rw[<-hW2];exact heap_alloc_new wr _⟩;have HSR:=qH (HSM.o r (iI IZ));have HRI:=qH (a2 IZ hbi);clear hI hrx hlx hlh IZ hbi hm2 HI;go_wp2_with fail;clear hW2 q0 q1 q2 q3;generalize wr.heap.size=Q at HI2 XQ hxQ huQ ⊢;go_loopg [21] 4 (fun h v21 wx=>∃l:Nat,v21=I l∧l<=4∧h=4-l∧AI w b w.heap.size DT DU ux uh c lx lh ⟨a.nx++(c.nx.take i).map (shift an),a.hit++c.hit.take i⟩ wx∧aG wx Q (sc r an l) 102)
   case atStart=>exact⟨0,rfl,by omega,rfl,HI2.o.1,HI2.o.2⟩
   case round=>
    obtain⟨l,rfl,hl4,hh4,hI,hQ⟩:=hrel;have HI:=qH hI;have HQ:=qH hQ;by_cases TN:l<4
    ·have yZ:(l:Int)<4:=by omega
     have cq:=hQ.cell l (aDN r an l TN);have fq:=hQ.free l;have hsr:=HSR.o l TN;have HS:=qH (aDO r an l TN);generalize TF r l=T at cq hsr HS;clear hI hQ;go_wp2;go_roundg (4-(l+1))
     case measure=>omega
     case rel=>exact⟨l+1,by go_num,by omega,rfl,HI.o.put HQ.o XQ hxQ huQ l _,by rw[<-HS.o,show ((T+an:Nat):Int)=(T:Int)+(an:Int) by omega];exact HQ.o.set l _⟩
    ·obtain rfl:l=4:=by omega
     obtain⟨i0,af,hz0,hz1,hz2⟩:=info_parts aIC;have d0:=hI.kK.cell 0 rfl;rw[Lc.o]at d0;obtain⟨A1,hA1⟩:=eX (r.a+an);obtain⟨A2,hA2⟩:=eX (r.b+an);obtain⟨A3,hA3⟩:=eX (r.c+an);obtain⟨A4,hA4⟩:=eX (r.d+an);have HSH:Hd (shift an r=⟨A1,A2,A3,A4⟩):=by show shift an r=_;rw[hA1,hA2,hA3,hA4];rfl
     have hQ:aG wr Q [I A1,I A2,I A3,I A4] 102:=by rw[hA1,hA2,hA3,hA4];exact HQ.o
     have q0:=hQ.cell 0 rfl;have q1:=hQ.cell 1 rfl;have q2:=hQ.cell 2 rfl;have q3:=hQ.cell 3 rfl;obtain⟨ln,hln⟩:=eX (an+i);rw[<-hln]at HL1 HL2 Lc TL d0;have hown:wr.ownsRow 0 102 4 (.slice pa ln aCb) ln ((a.nx++(c.nx.take i).map (shift an)).flatMap nC.f):=by have:=hI.nx;unfold Row at this;rw[Lc.o,HL1.o]at this;exact this
     have aDK:=hI.kK.lt;have aGt:ln<=300000:=by omega
     have hAx:some b≠lx.ownBlock:=fun e=>hI.kK.apart hI.nx (by decide) e.symm
     rw[Lc.o]at hAx;have K0:=hI.kK.aS 0 rfl;rw[Lc.o]at K0;have F0:=hI.kK.dQ 0;have Y8:Hd (a.nx++(c.nx.take i).map (shift an)++[⟨A1,A2,A3,A4⟩]=a.nx++(c.nx.take (i+1)).map (shift an)∧a.hit++c.hit.take i++[hb]=a.hit++c.hit.take (i+1)):=by
      refine⟨?_,?_⟩
      ·rw[take_add_one,HRI.o.1,<-HSH.o];simp
      ·rw[take_add_one,HRI.o.2];simp
     clear hI hQ hA1 hA2 hA3 hA4 hln;go_wp2_with fail
     go_region_law (refine step_append_lies _ (by rfl) _ _ _ (by rfl) 0 102 i0 _ 4 32 underlying80 af hz0 hz1 hz2 rfl (by omega) (.slice pa ln aCb) ln ((a.nx++(c.nx.take i).map (shift an)).flatMap nC.f) (by rfl) ((hown.alloc _).drew) (J wr.heap.size 0) 1 1 [I A1,I A2,I A3,I A4] (by rfl) (by rfl) (World.news_of_block (cs:=#[I A1,I A2,I A3,I A4]) (t:=102) (fr:=(0,0)) (heap_alloc_new wr _)) (by intro u hu;simp at hu;rcases hu with rfl | rfl | rfl | rfl <;> rfl) (by omega) (by unfold maxLen;omega) (by omega) (by simp) (wr.heap.size+1) (by simp) ?_;intro gg cap2 w7 gV hgrow hat fJ;have s0:=(hgrow.cell_far (J b 0) (by simp;omega) hAx).trans (K0 _);have s1:=(hgrow.frozen_far (J b 0) (by simp;omega) hAx).trans (F0 _))
     all_goals
      have Cb:aN (wr.alloc (.cells #[I A1,I A2,I A3,I A4] 102)).drew lx (Jn gg (ln+1) cap2):=by
       intro g1 hg1;cases hg1;rcases hat with h | h
       ·exact Or.inl (by rw[Lc.o];exact h)
       ·exact Or.inr (by show (wr.alloc (.cells #[I A1,I A2,I A3,I A4] 102)).heap.size<=gg;simp;omega)
      have vY:Row nC w7 (Jn gg (ln+1) cap2) (a.nx++(c.nx.take (i+1)).map (shift an)):=by
       rw[<-Y8.o.1];refine Row.snoc ?_;rw[HL1.o];exact gV
      have gU:=(HI.o.no (((Mod.refl _ _).alloc (.cells #[I A1,I A2,I A3,I A4] 102)).drew)).PK (by rw[Lc.o];exact hgrow) vY Cb;obtain⟨v8,hv8⟩:=eX (Jn gg (ln+1) cap2);generalize w7.setCell (J b 0) (Jn gg (ln+1) cap2)=w8 at gU ⊢;rw[<-hv8]at gU;have gU:Hd (AI w b w.heap.size DT DU ux uh c v8 lh ⟨a.nx++(c.nx.take (i+1)).map (shift an),a.hit++c.hit.take i⟩ w8):=gU;clear Cb vY gV hgrow hat fJ s0 s1 hv8;clear hown d0 q0 q1 q2 q3 af hz0 hz1 hz2 hAx K0 F0;obtain⟨j0,af,hz0,hz1,hz2⟩:=info_parts aIY;have hh8:=gU.o.rh;rw[HVZ.o]at hh8;have ch:=lD.cell hh8 HRI.o.2;have x1:=gU.o.box.cell 1 rfl;rw[HVZ.o]at x1;have d1:=gU.o.kK.cell 1 rfl;rw[TL.o]at d1;have GZ:w8.ownsRow 0 4 1 (.slice qa ln aCc) ln ((a.hit++c.hit.take i).flatMap lD.f):=by have:=gU.o.hit;unfold Row at this;rw[TL.o]at this;rw[show (M2.Auto.mk (a.nx++(c.nx.take (i+1)).map (shift an)) (a.hit++c.hit.take i)).hit=a.hit++c.hit.take i from rfl,HL2.o]at this;exact this
      have hAh:some b≠lh.ownBlock:=fun e=>gU.o.kK.apart gU.o.hit (by decide) e.symm
      rw[TL.o]at hAh;have F1:=gU.o.kK.dQ 1;have K1:=gU.o.kK.aS 1 rfl;rw[TL.o]at K1;have hA8:=gU.o.kK.lt;have aFd:(i:Int)<n:=by omega
      clear hh8;go_wp2_with fail
      go_region_law (refine step_append_lies _ (by rfl) _ _ _ (by rfl) 0 4 j0 _ 1 1 underlying118 af hz0 hz1 hz2 rfl (by omega) (.slice qa ln aCc) ln ((a.hit++c.hit.take i).flatMap lD.f) (by rfl) ((GZ.alloc _).drew) (J w8.heap.size 0) 1 1 [.bool hb] (by rfl) (by rfl) (World.news_of_block (cs:=#[.bool hb]) (t:=4) (fr:=(0,0)) (heap_alloc_new w8 _)) (by intro u hu;simp at hu;rw[hu];rfl) (by omega) (by unfold maxLen;omega) (by omega) (by simp) (w8.heap.size+1) (by simp) ?_;intro g2 cap3 w10 vZ jW Cc G5;have s0:=(jW.cell_far (J b 1) (by simp;omega) hAh).trans (K1 _);have s1:=(jW.frozen_far (J b 1) (by simp;omega) hAh).trans (F1 _))
      all_goals
       have PU:aN (w8.alloc (.cells #[.bool hb] 4)).drew lh (Jn g2 (ln+1) cap3):=by
        intro g1 hg1;cases hg1;rcases Cc with h | h
        ·exact Or.inl (by rw[TL.o];exact h)
        ·exact Or.inr (by show (w8.alloc (.cells #[.bool hb] 4)).heap.size<=g2;simp;omega)
       have PW:Row lD w10 (Jn g2 (ln+1) cap3) (a.hit++c.hit.take (i+1)):=by
        rw[<-Y8.o.2];refine Row.snoc ?_;rw[HL2.o];exact vZ
       have aAe:Hd (AI w b w.heap.size DT DU ux uh c v8 (Jn g2 (ln+1) cap3) ⟨a.nx++(c.nx.take (i+1)).map (shift an),a.hit++c.hit.take (i+1)⟩ (w10.setCell (J b 1) (Jn g2 (ln+1) cap3))):=(gU.o.no (((Mod.refl _ _).alloc (.cells #[.bool hb] 4)).drew)).PL (by rw[TL.o];exact jW) PW PU;clear PU PW K1 F1 GZ vZ jW Cc G5 s0 s1 x1 d1 af hz0 hz1 hz2 ch;go_wp2;go_roundg (n-(i+1))
       case measure=>omega
       case rel=>exact⟨i+1,v8,_,by omega,rfl,by go_num,aAe.o⟩
  ·obtain rfl:i=n:=by omega
   have HT:Hd (c.nx.take i=c.nx∧c.hit.take i=c.hit):=⟨take_of_length_le (by have:=HN.o.1;omega),take_of_length_le (by have:=HN.o.2;omega)⟩;clear hI hlx hlh;go_wp2;go_end0;refine⟨rfl,lx,lh,?_⟩;have h:=HI.o;rw[HT.o.1,HT.o.2]at h;rw[HVU.o,HVZ.o]at h;exact h
theorem P7(v w:List UInt8)(n:Nat)(h:v.length<=n):aI.common (v.drop n) w=0:=by
 rw[drop_of_length_le h];cases w <;> rfl
theorem P8(v w:List UInt8)(n:Nat)(h:w.length<=n):aI.common v (w.drop n)=0:=by
 rw[drop_of_length_le h];cases v <;> rfl
theorem Pg(v w:List UInt8)(n:Nat)(x y:UInt8)(hx:v[n]?=some x)(hy:w[n]?=some y):aI.common (v.drop n) (w.drop n)=if x=y then aI.common (v.drop (n+1)) (w.drop (n+1))+1 else 0:=by
 obtain⟨h1,rfl⟩:=bU hx;obtain⟨h2,rfl⟩:=bU hy;rw[kJ h1,kJ h2,aI.common]
theorem yQ(s t:ByteArray)(w:World)(hs:s.size<=1073741824)(_ht:t.size<=1073741824):J1 77 #[.string s,.string t] w fun e w'=>e=.returned (I (aI.common s.data.toList t.data.toList:Int))∧∃n,w'=w.drewN n:=by
 obtain⟨v,hv⟩:=eX s.data.toList;obtain⟨u,hu⟩:=eX t.data.toList;have HS:Hd (s.size=v.length∧t.size=u.length):=⟨by rw[hv,bK],by rw[hu,bK]⟩;have HG1:Hd (∀(i:Nat) (h:i<s.size),v[i]?=some s[i]):=fun i h=>by rw[hv];exact Lib.data_getElem? s i h
 have HG2:Hd (∀(i:Nat) (h:i<t.size),u[i]?=some t[i]):=fun i h=>by rw[hu];exact Lib.data_getElem? t i h
 rw[<-hv,<-hu];generalize hE:aI.common v u=E;have HE:=qH hE;go_enter func77,ntmps77;go_wp2_with fail;go_loopg [5] s.size (fun g v5 wr=>∃(n m:Nat),n<=s.size∧g=s.size-n∧v5=I n∧n+aI.common (v.drop n) (u.drop n)=E∧wr=w.drewN m)
 case atStart=>exact⟨0,0,by omega,by omega,rfl,by have:=HE.o;simpa using this,rfl⟩
 case round=>
  obtain⟨n,m,hn,hg,rfl,hc,rfl⟩:=hrel;by_cases h1:n<s.size
  ·have h1i:(n:Int)<s.size:=by omega
   have h1d:=decide_eq_true h1;have h0i:(0:Int)<=(n:Int):=by omega
   by_cases h2:n<t.size
   ·have Rx:(n:Int)<t.size:=by omega
    have h2d:=decide_eq_true h2;have hst:=Pg v u n _ _ (HG1.o n h1) (HG2.o n h2);by_cases h3:s[n]=t[n]
    ·have HC:Hd (n+1+aI.common (v.drop (n+1)) (u.drop (n+1))=E):=qH <| by
      rw[<-hc,hst,aP h3];omega
     have h3i:(((s[n]).toNat:Int)==((t[n]).toNat:Int))=true:=by rw[h3];simp
     go_wp2_with fail;go_quiet (fail);go_wp2;go_roundg (s.size-(n+1))
     case measure=>omega
     case rel=>exact⟨n+1,_,by omega,rfl,by go_num,HC.o,rfl⟩
    ·have HC:Hd (n=E):=qH <| by
      rw[<-hc,hst,aU h3];omega
     have h3i:(((s[n]).toNat:Int)==((t[n]).toNat:Int))=false:=by
      rw[beq_eq_false_iff_ne];intro h;exact h3 (UInt8.toNat_inj.1 (by omega))
     go_wp2_with fail;go_quiet (fail);go_wp2;go_ret;exact⟨bQ (by rw[HC.o]),_,World.drewN_drewN _ _ _⟩
   ·have Rx:¬(n:Int)<t.size:=by omega
    have h2d:=lT h2;have HC:Hd (n=E):=qH <| by
     rw[<-hc,P8 _ u n (by have:=HS.o.2;omega)];omega
    go_wp2_with fail;go_quiet (fail);go_wp2;go_ret;exact⟨bQ (by rw[HC.o]),_,World.drewN_drewN _ _ _⟩
  ·have h1i:¬(n:Int)<s.size:=by omega
   have h1d:=lT h1;have HC:Hd (n=E):=qH <| by
    rw[<-hc,P7 v _ n (by have:=HS.o.1;omega)];omega
   go_wp2_with fail;go_quiet (fail);go_wp2;go_ret;exact⟨bQ (by rw[HC.o]),_,World.drewN_drewN _ _ _⟩
def DeE:Enc (Nat × List UInt8):=⟨145,2,fun d=>[I d.1,.string ⟨d.2.toArray⟩],fun _=>rfl⟩
def I9(v:Value):Prop:=∃a n c,v=.slice a n c
theorem Row.sl{α:Type}{E:Enc α}{w:World}{v:Value}{xs:List α}(h:Row E w v xs):I9 v:=by
 obtain⟨a,cap,e,_⟩:=h.any;exact⟨_,_,_,e⟩
theorem uG(l:Nat)(hl:l<4):(⟨#[97,98,99,100]⟩:ByteArray).extract l (l+1)=⟨(aT l).toArray⟩:=by
 match l,hl with
 | 0,_=>rfl
 | 1,_=>rfl
 | 2,_=>rfl
 | 3,_=>rfl
theorem xB(w:World)(ka kw kh kd:Value)(v:M2.View)(kind tc l:Nat)(h1:I9 ka)(h2:I9 kw)(h3:I9 kh)(hd:Row DeE w kd v.jX)(hl:l<4)(hk:kind<v.jX.length)(htc:tc<=1000)(hdl:v.jX.length<=1000)(hds:∀d∈v.jX,d.1<=1000):J1 128 #[.agg #[ka,kw,kh,kd],I kind,I tc,I l] w fun e w'=>e=.returned (.tuple #[.string ⟨(aW v kind tc l).1.toArray⟩,I ((aW v kind tc l).2:Int)])∧Mod No w w':=by
 obtain⟨a1,n1,c1,rfl⟩:=h1;obtain⟨a2,n2,c2,rfl⟩:=h2;obtain⟨a3,n3,c3,rfl⟩:=h3;obtain⟨g,cap,rfl,hg,hcap⟩:=hd.form (by omega);obtain⟨d,hdk⟩:∃d,v.jX[kind]?=some d:=⟨v.jX[kind],bG hk⟩;have hd1:=hds d (iI hdk);have q0:w.cell? (J g (kind*2))=some (I d.1):=hd.cell kind 0 hdk rfl;have q1:w.cell? (J g (kind*2+1))=some (.string ⟨d.2.toArray⟩):=hd.cell kind 1 hdk rfl;have hv:aW v kind tc l=if 0<tc then ([],tc-1) else if 0<d.1 then (d.2,d.1-1) else (aT l,0):=by
  unfold aW;rw[hdk]
  dsimp only
  rw[aU (by omega)]
 rw[hv];have HLC:=qH (uG l hl);obtain⟨n,hn⟩:=eX v.jX.length;rw[<-hn]at hcap hk hdl ⊢;obtain⟨d1,d2⟩:=d
 dsimp only at *
 have hki:(kind:Int)<n:=by omega
 have aGv:(0:Int)<=(kind:Int):=by omega
 have yZ:(l:Int)<4:=by omega
 have aB3:(0:Int)<=(l:Int):=by omega
 have e1:decide ((kind:Int)<0)=false:=lT (by omega);have e2:decide ((n:Int)<=kind)=false:=lT (by omega);have e3:decide ((l:Int)<0)=false:=lT (by omega);have e4:decide ((4:Int)<=(l:Int))=false:=lT (by omega);clear hd hdk hds hv hn;by_cases ht:0<tc
 ·rw[aP ht];have hti:(0:Int)<(tc:Int):=by omega
  go_enter func128,ntmps128;go_wp2;exact bodyPost_ret (v:=.tuple #[.string ⟨#[]⟩,I ((tc:Int)-1)]) (by simp[results,results128,go_sem]) rfl ⟨by rw[show ((tc:Int)-1)=((tc-1:Nat):Int) by omega],(Mod.refl _ _).alloc _⟩
 ·rw[aU ht];have hti:¬(0:Int)<(tc:Int):=by omega
  by_cases hd0:0<d1
  ·rw[aP hd0];have hdi:(0:Int)<(d1:Int):=by omega
   obtain⟨D2,hD2⟩:=eX (⟨d2.toArray⟩:ByteArray);rw[<-hD2]at q1 ⊢;clear hD2;have hgw:¬g=w.heap.size:=by omega
   obtain⟨wa,JX⟩:∃wa,(w.alloc (.cells #[.slice a1 n1 c1,.slice a2 n2 c2,.slice a3 n3 c3,Jn g n cap] 86)).alloc (.cells #[I d1,.string D2] 145)=wa:=⟨_,rfl⟩;have hb:aG wa (w.heap.size+1) [I d1,.string D2] 145:=by rw[<-JX];exact fE w _ _
   have xA:Hd (Mod No w wa):=qH <| by rw[<-JX];exact((Mod.refl _ _).alloc _).alloc _
   have k0:=hb.cell 0 rfl;have k1:=hb.cell 1 rfl;go_enter func128,ntmps128;go_wp2;go_quiet (fail);go_wp2;exact bodyPost_ret (v:=.tuple #[.string D2,I ((d1:Int)-1)]) (by simp[results,results128,go_sem]) rfl ⟨by rw[show ((d1:Int)-1)=((d1-1:Nat):Int) by omega],xA.o.drewN _⟩
  ·rw[aU hd0];have hdi:¬(0:Int)<(d1:Int):=by omega
   have hl1:(l:Int)+1<=4:=by omega
   have hl2:(0:Int)<=(l:Int)+1:=by omega
   have hl3:(l:Int)<=l+1:=by omega
   have hl4:((l:Int)+1).toNat=l+1:=by omega
   have hgw:¬g=w.heap.size:=by omega
   generalize (⟨d2.toArray⟩:ByteArray)=D2 at q1;go_enter func128,ntmps128;go_wp2;refine bodyPost_ret (v:=.tuple #[.string ((⟨#[97,98,99,100]⟩:ByteArray).extract l (l+1)),I 0]) (by simp[results,results128,go_sem]) rfl ⟨by rw[HLC.o],((Mod.refl _ _).alloc _).alloc _⟩
theorem BG(v:M2.View):∀(w:List UInt8) (b:Nat) (r:List Nat × Nat),iw v w b=some r->r.1.length=w.length
 | [],b,r,h=>by rw[iw]at h;cases h;rfl
 | c::cs,b,r,h=>by
  rw[iw]at h;split at h
  ·cases h
  ·rename_i ks b' hk;split at h
   ·cases h
   ·split at h
    ·cases h
    ·cases h;simp[BG v cs b _ hk]
theorem Gh(v:M2.View)(b:Nat):∀(w:List UInt8) (r:List Nat × Nat) (j:Nat),iw v w b=some r->j<=w.length->∃k,iw v (w.drop j) b=some (r.1.drop j,k)
 | [],r,j,h,hj=>by
  have:j=0:=by simpa using hj
  subst this;exact⟨r.2,by simpa using h⟩
 | c::cs,r,0,h,hj=>⟨r.2,by simpa using h⟩
 | c::cs,r,j+1,h,hj=>by
  rw[iw]at h;split at h
  ·cases h
  ·rename_i ks b' hk;split at h
   ·cases h
   ·split at h
    ·cases h
    ·cases h;obtain⟨k,hk2⟩:=Gh v b cs _ j hk (by simpa using hj);exact⟨k,by simpa using hk2⟩
theorem X5(w:World)(ka kw kh kd:Value)(v:M2.View)(s:ByteArray)(b0:Nat)(h2:I9 kw)(h3:I9 kh)(h4:I9 kd)(ha:Row nC w ka v.k.ahead)(hs:s.size<=1000000)(hb:b0<v.k.ahead.length)(hal:v.k.ahead.length<=1000){r:List Nat × Nat}(hM:iw v s.data.toList b0=some r):J1 144 #[.agg #[ka,kw,kh,kd],.string s,I b0] w fun e w'=>Mod No w w'∧∃u,e=.returned u∧Row dh w' u r.1∧(∀g,u.ownBlock=some g->w.heap.size<=g):=by
 obtain⟨a2,n2,c2,rfl⟩:=h2;obtain⟨a3,n3,c3,rfl⟩:=h3;obtain⟨a4,n4,c4,rfl⟩:=h4;obtain⟨g,cap,rfl,hg,hcap⟩:=ha.form (by omega);obtain⟨n,hn⟩:=eX v.k.ahead.length;rw[<-hn]at ha hb hal hcap ⊢;obtain⟨l,hl⟩:=eX s.data.toList;rw[<-hl]at hM;have zf:Hd (s.size=l.length):=qH <| by rw[hl,bK]
 have HG:Hd (∀(i:Nat) (h:i<s.size),l[i]?=some s[i]):=fun i h=>by rw[hl];exact Lib.data_getElem? s i h
 have HRL:=qH (BG v l b0 r hM);have HP:=qH fun j (hj:j<=l.length)=>Gh v b0 l r j hM hj
 have HA:=qH ha;have HN:=qH hn;have Oh:=qH jd;have hmk:=iO s.size hs;have e1:decide ((b0:Int)<0)=false:=lT (by omega);have e2:decide ((n:Int)<=b0)=false:=lT (by omega);have hbi:¬(n:Int)<=b0:=by omega
 clear hl hM ha hn;go_enter func144,ntmps144;go_wp2_with fail;have HI0:Hd (∀A B,A=Obj.cells #[Jn g n cap,.slice a2 n2 c2,.slice a3 n3 c3,.slice a4 n4 c4] 86->B=Obj.cells (Array.replicate s.size (I 0)) 3->aG ((w.alloc A).alloc B) w.heap.size [Jn g n cap,.slice a2 n2 c2,.slice a3 n3 c3,.slice a4 n4 c4] 86∧Row dh ((w.alloc A).alloc B) (.slice (some ⟨w.heap.size+1,0,none⟩) s.size s.size) (replicate s.size 0++r.1.drop s.size)):=by
  intro A B hA hB;subst hA hB;refine⟨gq w _ _,?_⟩;have e:r.1.drop s.size=[]:=drop_of_length_le (by rw[HRL.o,zf.o];omega);rw[e,append_nil];have hb2:aG ((w.alloc (.cells #[Jn g n cap,.slice a2 n2 c2,.slice a3 n3 c3,.slice a4 n4 c4] 86)).alloc (.cells (Array.replicate s.size (I 0)) 3)) (w.heap.size+1) ((replicate s.size (0:Nat)).flatMap dh.f) 3:=by
   rw[jL];have:=fE w (Obj.cells #[Jn g n cap,.slice a2 n2 c2,.slice a3 n3 c3,.slice a4 n4 c4] 86) (Obj.cells (Array.replicate s.size (I 0)) 3);unfold aG;rw[this];simp
  have:=Row.of_block hb2 (by simp;unfold maxLen;omega);simpa using this
 go_loopg [2,8] s.size (fun gh v2 v8 wr=>∃(j k:Nat),j<=s.size∧gh=j∧v8=I ((j:Int)-1)∧v2=I k∧iw v (l.drop j) b0=some (r.1.drop j,k)∧aG wr w.heap.size [Jn g n cap,.slice a2 n2 c2,.slice a3 n3 c3,.slice a4 n4 c4] 86∧Row dh wr (.slice (some ⟨w.heap.size+1,0,none⟩) s.size s.size) (replicate j 0++r.1.drop j)∧Mod No w wr)
 case atStart=>
  have h:=HI0.o _ _ rfl rfl;refine⟨s.size,b0,by omega,rfl,rfl,rfl,?_,h.1,h.2,((Mod.refl _ _).alloc _).alloc _⟩;rw[drop_of_length_le (by have:=zf.o;omega),drop_of_length_le (by rw[HRL.o];have:=zf.o;omega),iw]
 case round=>
  obtain⟨j,k,hj,hgk,rfl,rfl,hal2,hX,hO,hm⟩:=hrel;have HX:=qH hX;have HO:=qH hO;have HM:=qH hm
  match j,hj,hgk,hal2,HO with
  | 0,_,_,_,HO=>
   go_wp2;go_ret;refine⟨HM.o,_,rfl,?_,fun g2 hg2=>?_⟩
   ·have h:=HO.o;simpa using h
   ·cases hg2;show w.heap.size<=w.heap.size+1;omega
  | j+1,hj,hgk,hal2,HO=>
   have hjs:j<s.size:=by omega
   have hc:=HG.o j hjs;have hcl:l.drop j=s[j]::l.drop (j+1):=by
    obtain⟨h1,h2⟩:=bU hc;rw[kJ h1,h2]
   obtain⟨k',hk'⟩:=HP.o j (by have:=zf.o;omega);rw[hcl,iw,hal2]at hk'
   dsimp only at hk'
   cases hrow:v.k.ahead[k]? with
   | none=>rw[hrow]at hk';cases hk'
   | some row=>
    rw[hrow]at hk'
    dsimp only at hk'
    cases hget:row.get (aI.num s[j])with
    | none=>rw[hget]at hk';cases hk'
    | some kk=>
     rw[hget]at hk';simp only[Option.some.injEq,Prod.mk.injEq]at hk';obtain⟨hdr,rfl⟩:=hk';have HAL:Hd (iw v (l.drop j) b0=some (r.1.drop j,kk)):=qH <| by
      rw[hcl,iw,hal2]
      dsimp only
      rw[hrow]
      dsimp only
      rw[hget]
      dsimp only
      rw[hdr]
     have P5:Hd ((replicate (j+1) 0++r.1.drop (j+1)).set j kk=replicate j 0++r.1.drop j):=qH <| by
      rw[<-hdr,replicate_succ',append_assoc,set_append_right _ _ (by simp)];simp
     have hkn:k<n:=by have:=(bU hrow).1;rw[<-HN.o]at this;exact this
     have hnl:=aIE s[j];have hA:=HA.o.no hm;have cq:wr.cell? ⟨g,k*4+aI.num s[j],none⟩=some (I kk):=by
      have h:=Vs row (aI.num s[j]) hnl;unfold TF at h;rw[hget]at h;exact hA.cell k (aI.num s[j]) hrow h
     have x0:=hX.cell 0 rfl;have oj:wr.cell? ⟨w.heap.size+1,j,none⟩=some (I ((0:Nat):Int)):=dh.cell HO.o (by rw[jG (by simp),getElem?_replicate];simp);have foj:=HO.o.free j;have hcall:=Oh.o s[j];have hji:(j:Int)<s.size:=by omega
     have aHH:(0:Int)<=(j:Int):=by omega
     have aHI:(k:Int)<n:=by omega
     have aGw:(aI.num s[j]:Int)<4:=by omega
     have HO0:Hd ((replicate (j+1) 0++r.1.drop (j+1))[j]?=some 0):=qH <| by
      rw[jG (by simp),getElem?_replicate];simp
     generalize aI.num s[j]=q at cq hcall hnl aGw;go_wp2_with fail;refine(hcall _).mono ?_;rintro e w2 ⟨rfl,rfl⟩;go_wp2;go_roundg j
     case measure=>omega
     case rel=>
      refine⟨j,kk,by omega,rfl,by go_num,rfl,HAL.o,HX.o.other (a:=⟨w.heap.size+1,j,none⟩) (by simp) _,?_,HM.o.setCell (a:=⟨w.heap.size+1,j,none⟩) (fun h=>absurd h (by simp)) _⟩;rw[<-P5.o];exact dh.put HO.o kk HO0.o
structure VOk(v:M2.View):Prop where
 len:v.jX.length=v.k.ahead.length
 le:v.k.ahead.length<=1000
 ent:∀row∈v.k.ahead,∀l k,row.get l=some k->k<v.k.ahead.length
 tak:∀d∈v.jX,d.1<=4∧d.2.length<=4
theorem Ph(v:M2.View)(hv:VOk v):∀(w:List UInt8) (b:Nat) (r:List Nat × Nat),iw v w b=some r->∀k∈r.1,k<v.k.ahead.length
 | [],b,r,h=>by rw[iw]at h;cases h;intro k hk;cases hk
 | c::cs,b,r,h=>by
  rw[iw]at h;split at h
  ·cases h
  ·rename_i ks b' hk;split at h
   ·cases h
   ·rename_i row hrow;split at h
    ·cases h
    ·rename_i k2 hget;cases h;intro k hk2;rcases mem_cons.1 hk2 with h1 | h1
     ·rw[h1];exact hv.ent row (iI hrow) _ _ hget
     ·exact Ph v hv cs b _ hk k h1
theorem qM(v:M2.View)(hv:VOk v)(k tc l:Nat)(ht:tc<=4):(aW v k tc l).1.length<=4∧(aW v k tc l).2<=4:=by
 unfold aW;split
 ·exact⟨by simp,by simp⟩
 ·rename_i d hd;have:=hv.tak d (iI hd);split
  ·exact⟨by simp,by simp⟩
  ·split
   ·exact⟨by simp,by show tc-1<=4;omega⟩
   ·split
    ·exact⟨this.2,by show d.1-1<=4;omega⟩
    ·exact⟨by simp[aT],by simp⟩
theorem strCells_eq(s:ByteArray):Lib.strCells s=Lib.byteCells s.data.toList:=by
 rfl
theorem X6(v:M2.View)(acc:List UInt8)(tc:Nat)(cs:List UInt8):oO v cs [] acc tc=(acc,tc):=by cases cs <;> rfl
end Go.Proofs.YtoebidlghdidoaaGreatDoor
