import Derived.Test.YtoebidlghdidoaaGreatDoorAR
set_option maxHeartbeats 4000000
set_option maxRecDepth 100000
namespace Go.Proofs.YtoebidlghdidoaaGreatDoor
open M3 M2 Tryz List
section
open Go.RowKit
attribute [local go_sem ↓] Go.wp_at_zero Go.wp_at_succ aI6 aI0 aI1 aI7
attribute [local go_sem] Pq Pv Px lM pO mF rU zx kG nH pU eH Lh aCT Py
theorem aDQ(Nv:Nat->Nat)(l:Nat)(hl:l<4):(qc Nv (l+1))[l]?=some (I (Nv l:Int)):=by
 match l,hl with
 | 0,_=>rfl
 | 1,_=>rfl
 | 2,_=>rfl
 | 3,_=>rfl
abbrev aH:Value:=.slice none 0 0
structure KP(k:dI)(w:World)(ka kw kh:Value)(w':World):Prop where
 ok:KOk k
 ah:Row nC w' ka k.ahead
 wo:Row Jf w' kw k.words
 hi:Row Pj w' kh k.hits
 fa:∀g,ka.ownBlock=some g->w.heap.size<=g
 fw:∀g,kw.ownBlock=some g->w.heap.size<=g
 fh:∀g,kh.ownBlock=some g->w.heap.size<=g
def aCU(r:Option dI)(w:World)(e:Ending)(w':World):Prop:=Mod No w w'∧match r with
 | none=>e=.returned (.tuple #[.agg #[aH,aH,aH],.bool false])
 | some k=>∃ka kw kh,e=.returned (.tuple #[.agg #[ka,kw,kh],.bool true])∧KP k w ka kw kh w'
theorem QB(w:World)(vx vh:Value)(a:M2.Auto)(hx:Row nC w vx a.nx)(hh:Row lD w vh a.hit)(hl0:0<a.nx.length)(hl1:a.nx.length<=60)(hl2:a.nx.length=a.hit.length){r:Option dI}(hM:oN a=some r):J1 56 #[.agg #[vx,vh]] w fun e w'=>aCU r w e w':=by
 obtain⟨xa,uT,uV,-,-,-⟩:=hx.any;obtain⟨ya,zo,uU,-,-,-⟩:=hh.any;obtain⟨N,hN⟩:=eX a.nx.length;rw[<-hl2,<-hN]at uU;rw[<-hN]at uV;have HOX:=qH fun g (hg:vx.ownBlock=some g)=>hx.lt hg
 have H44:Hd (∀wx,Mod No w wx->J1 88 #[.agg #[vx,vh]] wx fun e w'=>e=.returned (.agg (hc a.hit).toArray)∧Mod No wx w'):=fun wx hm=>by
  have:=Pn wx xa N uT vh a.hit (hh.no hm) (by omega) (by omega)
  rwa [<-uV]at this
 have H45:Hd (∀wx h h' l,Mod No w wx->l<4->h.length=60->bF h l a.nx 60=some h'->J1 89 #[.agg #[vx,vh],.agg (hc h).toArray,I l] wx fun e w'=>e=.returned (.agg (hc h').toArray)∧Mod No wx w'):=fun wx h h' l hm hl h6 hA=>by
  have:=X7 wx vx ya N zo a.nx h h' l (hx.no hm) hl h6 hl0 (by omega) hA
  rwa [<-uU]at this
 have HX:=qH hx;have HM:Hd (jH a 30 0 ⟨[],[[]],[jR a.hit]⟩=some r):=hM;have NK:=qH (a2 uV uU);clear hx hh hM hl2 hN;rw[uV,uU];rw[uV,uU]at H44;go_enter func56,ntmps56;go_wp2_with fail;refine(H44.o _ ((((Mod.refl _ _).alloc _).alloc _).alloc _)).mono ?_;rintro e w1 ⟨rfl,m1⟩;clear H44;have hb1:aG w1 w.heap.size [vx,vh] 138:=by
  rw[uV,uU];exact aG.mod (vV w _ _ _) m1 (fun x=>x)
 have hb2:aG w1 (w.heap.size+1) [aH,aH,aH] 83:=aG.mod (tu w _ _ _) m1 (fun x=>x);have hb3:=aG.mod (uD w _ _ _) m1 (fun x=>x);have hm1:Mod No w w1:=((((Mod.refl _ _).alloc _).alloc _).alloc _).no m1;clear m1;go_wp2_with fail;have HI0:Hd (KI w vx vh a (w1.heap.size+1) aH (.slice (some ⟨w.heap.size+1+1,0,none⟩) 1 1) (Jn w1.heap.size 1 1) ⟨[],[[]],[jR a.hit]⟩ ((w1.alloc (.cells (hc a.hit).toArray 200)).alloc (.cells #[aH,.slice (some ⟨w.heap.size+1+1,0,none⟩) 1 1,Jn w1.heap.size 1 1] 83))):=by
  have m2:Mod No w1 ((w1.alloc (.cells (hc a.hit).toArray 200)).alloc (.cells #[aH,.slice (some ⟨w.heap.size+1+1,0,none⟩) 1 1,Jn w1.heap.size 1 1] 83)):=((Mod.refl _ _).alloc _).alloc _;have h3:=hb3.lt;refine⟨hb1.mod m2 (fun x=>x),hb2.mod m2 (fun x=>x),fE w1 _ _,(HX.o.no hm1).no m2,Row.nil _ _,?_,?_,hm1.no m2,?_,?_,?_,HOX.o,by omega⟩
  ·exact Row.of_block (E:=Jf) (xs:=[[]]) (hb3.mod m2 (fun x=>x)) (by simp;unfold maxLen;omega)
  ·refine Row.of_block (E:=Pj) (xs:=[jR a.hit]) ?_ (by simp;unfold maxLen;omega);have:[jR a.hit].flatMap Pj.f=hc a.hit:=by
    show hc (jR a.hit)++[]=hc a.hit;rw[append_nil];unfold hc;rw[BH (wU a.hit)]
   rw[this];exact gq w1 _ _
  ·intro g hg;cases hg
  ·intro g hg;cases hg;show w.heap.size<=w.heap.size+1+1;omega
  ·intro g hg;cases hg;show w.heap.size<=w1.heap.size;exact hm1.size
 have aFi:Hd (KOk ⟨[],[[]],[jR a.hit]⟩):=⟨fun h hh=>by simp at hh;rw[hh];exact wU _,rfl,by simp,fun x hx=>by simp at hx;rw[hx];simp⟩;generalize (w1.alloc (.cells (hc a.hit).toArray 200)).alloc (.cells #[aH,.slice (some ⟨w.heap.size+1+1,0,none⟩) 1 1,Jn w1.heap.size 1 1] 83)=W0 at HI0 ⊢;generalize w1.heap.size+1=C at HI0 ⊢;generalize (Jn w1.heap.size 1 1)=kh0 at HI0;generalize (Value.slice (some ⟨w.heap.size+1+1,0,none⟩) 1 1)=kw0 at HI0;clear hb1 hb2 hb3 hm1;go_loopg [5] 30 (fun g v5 wr=>∃(i:Nat) (ka kw kh:Value) (k:dI),v5=I i∧KI w vx vh a C ka kw kh k wr∧KOk k∧k.hits.length<=24∧jH a g i k=some r∧k.ahead.length=i∧i<=30)
 case atStart=>exact⟨0,aH,kw0,kh0,_,rfl,HI0.o,aFi.o,by simp,HM.o,rfl,by omega⟩
 case round=>
  obtain⟨i,ka,kw,kh,k,rfl,hI,hok,WR,hgo,hah,aHJ⟩:=hrel
  match gk,hgo with
  | 0,hgo=>rw[jH]at hgo;cases hgo
  | g+1,hgo=>
   obtain⟨n,hn⟩:=eX k.hits.length;obtain⟨ha3,Vw,hkh,-,-⟩:=hI.hi.open hn.symm;obtain⟨ha2,hcap2,hkw,-,-⟩:=hI.wo.open (n:=n) (by rw[hok.len,hn]);obtain⟨ha1,hcap1,hka,-,-⟩:=hI.ah.open hah;have HI:=qH hI;have J7:=qH hok;have c2:=hI.kin.cell 2 rfl;have c0:=hI.kin.cell 0 rfl;have c1:=hI.kin.cell 1 rfl;rw[hkh]at c2;rw[hkw]at c1;rw[hka]at c0;have HKV:=qH (a3 hka hkw hkh);have HN:=qH hn;by_cases hlt:n<=i
   ·rw[jH,aP (by omega)]at hgo;have hgo:=hgo;cases hgo;have yZ:¬(i:Int)<n:=by omega
    have r0:=hI.res.cell 0 rfl;have r1:=hI.res.cell 1 rfl;have r2:=hI.res.cell 2 rfl;have f0:=hI.res.free 0;have f1:=hI.res.free 1;have f2:=hI.res.free 2;clear hI hka hkw hkh hn;go_wp2;refine bodyPost_ret (v:=.tuple #[.agg #[.slice ha1 i hcap1,.slice ha2 n hcap2,.slice ha3 n Vw],.bool true]) (by simp[results,results56,go_sem,r0,r1,r2]) rfl ?_;have hres:=HI.o;have hC:=hres.oC;have Ae:Mod (fun q=>q=w.heap.size+1) wr (((wr.setCell ⟨w.heap.size+1,0,none⟩ (.slice ha1 i hcap1)).setCell ⟨w.heap.size+1,1,none⟩ (.slice ha2 n hcap2)).setCell ⟨w.heap.size+1,2,none⟩ (.slice ha3 n Vw)):=(((Mod.refl (fun q=>q=w.heap.size+1) wr).setCell (a:=⟨w.heap.size+1,0,none⟩) (fun _=>rfl) _).setCell (a:=⟨w.heap.size+1,1,none⟩) (fun _=>rfl) _).setCell (a:=⟨w.heap.size+1,2,none⟩) (fun _=>rfl) _;refine⟨hres.md.trans' Ae (fun q hq e=>by omega),ka,kw,kh,?_,J7.o,hres.ah.mod Ae (fun g hg e=>hres.res.apart hres.ah (by decide) (by rw[hg,e])),hres.wo.mod Ae (fun g hg e=>hres.res.apart hres.wo (by decide) (by rw[hg,e])),hres.hi.mod Ae (fun g hg e=>hres.res.apart hres.hi (by decide) (by rw[hg,e])),hres.fa,hres.fw,hres.fh⟩;rw[HKV.o.1,HKV.o.2.1,HKV.o.2.2]
   ·obtain⟨Ks,Nv,hK0,hst,hend⟩:=aDP (by omega) hgo;have hsp:∀l,l<=4->KOk (Ks l)∧(Ks l).hits.length<=n+l∧n<=(Ks l).hits.length∧(Ks l).ahead=k.ahead:=by
     intro l
     induction l with
     | zero=>intro _;rw[hK0];exact⟨hok,by omega,by omega,rfl⟩
     | succ l ih=>
      intro hl;obtain⟨i1,i2,i3,i4⟩:=ih (by omega);obtain⟨h1,h2,hs⟩:=Gm (hst l (by omega));have:=hs.ok i1;exact⟨this.1,by omega,by omega,by rw[hs.ad,i4]⟩
    have HSP:=qH hsp;have HST:=qH hst;have ny:Hd ((24<(Ks 4).hits.length∧r=none)∨(¬24<(Ks 4).hits.length∧jH a g (i+1) { Ks 4 with ahead:=(Ks 4).ahead++[⟨Nv 0,Nv 1,Nv 2,Nv 3⟩] }=some r)):=hend;have HAH:=qH hah;have yZ:(i:Int)<n:=by omega
    have XQ:=hI.md.size;have HI1:Hd (KI w vx vh a C ka kw kh (Ks 0) (wr.alloc (.cells #[I 0,I 0,I 0,I 0] 102))∧aG (wr.alloc (.cells #[I 0,I 0,I 0,I 0] 102)) wr.heap.size (qc Nv 0) 102):=⟨by rw[hK0];exact hI.no ((Mod.refl _ _).alloc _),heap_alloc_new wr _⟩;have aFj:ka.ownBlock≠some wr.heap.size:=fun e=>by have:=hI.ah.lt e;omega
    have aIU:n<=24:=by omega
    have HKA:=qH HKV.o.1;clear hI HI hok J7 hgo hst hend hsp hK0 hah hka hkw hkh hn HM HI0 aFi WR;go_wp2_with fail;clear c0 c1 c2;generalize wr.alloc (.cells #[I 0,I 0,I 0,I 0] 102)=W2 at HI1 ⊢;generalize wr.heap.size=Q at HI1 XQ aFj ⊢;go_loopg [21] 4 (fun h v21 wx=>∃(l:Nat) (kw kh:Value),v21=I l∧l<=4∧h=4-l∧KI w vx vh a C ka kw kh (Ks l) wx∧aG wx Q (qc Nv l) 102)
    case atStart=>exact⟨0,kw,kh,rfl,by omega,rfl,HI1.o.1,HI1.o.2⟩
    case round=>
     clear HI1 HKV;obtain⟨l,kw,kh,rfl,hl4,hh4,hI,hQ⟩:=hrel;have HI:=qH hI;have HQ:=qH hQ;by_cases hl:l<4
     ·have hl3:(l:Int)<4:=by omega
      obtain⟨h1,h2,hs⟩:=Gm (HST.o l hl);obtain⟨o1,o2,o3,o4⟩:=HSP.o l (by omega);obtain⟨m,hm⟩:=eX ((Ks l).hits.length);obtain⟨ha3,Vw,hkh,-,-⟩:=hI.hi.open hm.symm;obtain⟨g3,hg3⟩:∃g3,ha3=some (J g3 0):=by
       obtain⟨g3,c3,h3,-⟩:=hI.hi.form (by omega);rw[hkh]at h3;injection h3 with h3 _;exact⟨g3,h3⟩
      subst hg3;have b0:=hI.box.cell 0 rfl;have b1:=hI.box.cell 1 rfl;rw[uV]at b0;rw[uU]at b1;have c2:=hI.kin.cell 2 rfl;rw[hkh]at c2;have K2:=hI.kin.aS 2 rfl;rw[hkh]at K2;have B0:=hI.box.aS 0 rfl;have B1:=hI.box.aS 1 rfl;rw[uV]at B0;rw[uU]at B1;have aGx:¬C=wr.heap.size:=by have:=hI.kin.lt;omega
      have hwne:¬w.heap.size=wr.heap.size:=by have:=hI.box.lt;omega
      have hrow:=hI.hi;rw[hkh]at hrow;have q1:=dF (hrow.range hs.hi);rw[Pj.len]at q1;change iQ wr g3 (i*60) 60=hc h1∧rQ wr g3 (i*60) 60=true at q1;obtain⟨q1,q3⟩:=q1;have aDR:Hd (∀wx,Mod No wr wx->J1 89 #[.agg #[.slice xa N uT,.slice ya N zo],.agg (hc h1).toArray,I l] wx fun e w'=>e=.returned (.agg (hc h2).toArray)∧Mod No wx w'):=fun wx hm=>by
       have:=H45.o wx h1 h2 l (HI.o.md.no hm) hl (o1.six h1 (iI hs.hi)) hs.ah
       rwa [uV,uU]at this
      have him:(i:Int)<m:=by omega
      have HS:=qH hs;have DX:=qH o1;have HMM:=qH (a2 hm hkh);have aHK:m<=28:=by omega
      clear hI hQ hs hrow o1 o2 o3 o4 hm hkh;go_wp2_with fail;go_cut [8,21] from 21 to 58 (fun s8 s21 wc=>s21=I l∧∃P,s8=Jx P 0∧aG wc P (hc h2) 200∧Mod No wr wc)
      case first=>
       go_region_with (first | (go_at_call 89;refine(aDR.o _ ((Mod.refl _ _).drew.alloc _)).mono ?_;rintro e wA ⟨rfl,mA⟩;have zB:aG wA wr.heap.size (hc []) 200:=aG.mod (aG.new wr.drew (hc []) 200) mA (fun x=>x);have zI:=zu zB;rw[eH]at zI) | (go_at_call 89;refine(aDR.o _ (Mod.refl _ _).drew).mono ?_;rintro e wA ⟨rfl,mA⟩));all_goals (try go_wp2_with fail)
       all_goals go_meet
       all_goals first
        | exact⟨rfl,_,rfl,aG.new wA (hc h2) 200,((Mod.refl _ _).drew.no mA).alloc _⟩
        | exact⟨rfl,_,rfl,zB.setRow (hc h2),(((Mod.refl _ _).drew.alloc _).no mA).setRow (fun e=>absurd e (by omega)) _⟩
      case rest=>
       obtain⟨rfl,P,rfl,hP,mc⟩:=hcut;have HIc:=qH (HI.o.no mc);have HQc:=qH (HQ.o.mod mc (fun x=>x));clear HI HQ aDR q1 q3 c2 K2 B0 B1 b0 b1 aGx hwne mc;have q1:=dF hP.range;rw[eH]at q1;obtain⟨q1,q3⟩:=q1;have h46:=QA wc C ka kw kh (Ks l).hits h2 HIc.o.kin HIc.o.hi DX.o.six (rP _ _ _ _ _ HS.o.ah) DX.o.pos (by have:=HMM.o.1;omega);rw[<-HS.o.fn,<-HS.o.ht]at h46;clear hP;go_wp2_with fail;refine h46.mono ?_;rintro e w6 ⟨rfl,kh2,hB6,hr6,hf6,hm6⟩;clear h46 q1 q3;have LZ:=HIc.o.num hB6 hr6 hf6 hm6;have hQ6:aG w6 Q (qc Nv l) 102:=HQc.o.mod hm6 (by
        rintro(e | e)
        ·exact HQc.o.diff HIc.o.kin (by decide) e
        ·exact HQc.o.apart HIc.o.hi (by decide) e)
       obtain⟨qv,hqv⟩:∃v,(qc Nv l)[l]?=some v:=⟨(qc Nv l)[l]'(by simp[qc];omega),bG _⟩;have q0:=hQ6.cell l hqv;have fq:=hQ6.free l;have sH:Mod (fun q=>q=Q) w6 (w6.setCell (J Q l) (I (Nv l:Int))):=(Mod.refl (fun q=>q=Q) w6).setCell (a:=J Q l) (fun _=>rfl) _;have AY:Hd (KI w vx vh a C ka kw kh2 { Ks l with hits:=(Ks (l+1)).hits } (w6.setCell (J Q l) (I (Nv l:Int)))):=LZ.side hQ6 sH XQ (by decide) (by decide) aFj (hQ6.apart LZ.wo (by decide)) (hQ6.apart LZ.hi (by decide));have HQ7:Hd (aG (w6.setCell (J Q l) (I (Nv l:Int))) Q (qc Nv (l+1)) 102):=qH <| by
        rw[<-TD Nv l hl];exact hQ6.set l _
       obtain⟨w7,hw7⟩:∃w7,w6.setCell (J Q l) (I (Nv l:Int))=w7:=⟨_,rfl⟩;rw[hw7]at AY HQ7;clear hB6 hr6 hf6 hm6 LZ hQ6 hqv sH HIc HQc;go_wp2_with fail;clear hw7 q0 fq;obtain⟨ha2,hcap2,hkw,-,hown2⟩:=AY.o.wo.open (n:=m) (by show (Ks l).words.length=m;rw[DX.o.len,HMM.o.1]);have d1:=AY.o.kin.cell 1 rfl;rw[hkw]at d1;have z0:=HQ7.o.cell l (aDQ Nv l hl);have hmz:m=(Ks l).words.length:=by rw[DX.o.len,HMM.o.1]
       obtain⟨w8,hw8⟩:∃w8,w7=w8:=⟨_,rfl⟩;rcases HS.o.wo with ⟨hnew,x,hx,hwx⟩ | ⟨hold,hwx⟩
       ·have hnm:Nv l=m:=by omega
        have HKE:Hd (Ks (l+1)={ { Ks l with hits:=(Ks (l+1)).hits } with words:=(Ks l).words++[aT l++x] }):=by
         show Ks (l+1)=_;have h1:=HS.o.ad
         revert h1 hwx
         generalize Ks (l+1)=kk;intro h1 h2;cases kk;simp at h1 h2 ⊢;exact⟨h2,h1⟩
        have aGy:((Nv l:Int)==(m:Int))=true:=by rw[hnm];simp
        obtain⟨g2,hg2⟩:∃g2,ha2=some (J g2 0):=by
         obtain⟨g2,c2,h2,-⟩:=AY.o.wo.form (by show 0<(Ks l).words.length;omega);rw[hkw]at h2;injection h2 with h2 _;exact⟨g2,h2⟩
        subst hg2;have HKW:=qH hkw;have HXI:=qH hx;have hXs:x.length<=1000:=by have:=DX.o.wl x (iI hx);omega
        clear hkw hw8 hmz hwx hnew hx hown2;go_quiet (fail);clear aGy d1 z0;have gU:Hd (KI w vx vh a C ka kw kh2 { Ks l with hits:=(Ks (l+1)).hits } (w7.drewN nq)):=AY.o.no ((Mod.refl _ _).drewN _);have HQ8:Hd (aG (w7.drewN nq) Q (qc Nv (l+1)) 102):=HQ7.o.drewN _;generalize w7.drewN nq=w8 at gU HQ8 ⊢;clear AY HQ7;have hrow2:=gU.o.wo;rw[HKW.o]at hrow2;have hown2:w8.ownsRow 0 9 1 (Jn g2 m hcap2) m ((Ks l).words.flatMap Jf.f):=by
         have h2:w8.ownsRow 0 9 1 (Jn g2 m hcap2) (Ks l).words.length ((Ks l).words.flatMap Jf.f):=hrow2
         rwa [DX.o.len,<-HMM.o.1]at h2
        have cx:=Jf.cell hrow2 HXI.o;have HLC:=qH (uG l hl);have hl1:(l:Int)+1<=4:=by omega
        have hl2:(0:Int)<=(l:Int)+1:=by omega
        have hl5:(l:Int)<=l+1:=by omega
        have hl6:((l:Int)+1).toNat=l+1:=by omega
        have hwr:IntKind.i64.wrap ((l:Int)+1)=(l:Int)+1:=by rw[IntKind.wrap_i64];omega
        have d1:=gU.o.kin.cell 1 rfl;rw[HKW.o]at d1;have F1:=gU.o.kin.dQ 1;have K1:=gU.o.kin.aS 1 rfl;rw[HKW.o]at K1;have aGz:=gU.o.kin.lt;have hCg:some C≠(Value.slice (some (J g2 0)) m hcap2).ownBlock:=by rw[<-HKW.o];exact fun e=>gU.o.kin.apart gU.o.wo (by decide) e.symm
        obtain⟨i0,af,hz0,hz1,hz2⟩:=info_parts aIG;obtain⟨X,hX⟩:=eX (⟨x.toArray⟩:ByteArray);rw[<-hX]at cx;have HXX:=qH hX;have hXs:X.size<=1000:=by rw[hX];show x.toArray.size<=1000;simpa using hXs
        have Lj:¬9223372036854775807<min (l+1) 4-l+X.size:=by omega
        clear hrow2 hX;go_wp2_with fail
        go_region_law (refine step_append_lies _ (by rfl) _ _ _ (by rfl) 0 9 i0 _ 1 16 underlying56 af hz0 hz1 hz2 rfl (by omega) (Jn g2 m hcap2) m ((Ks l).words.flatMap Jf.f) (by rfl) ((hown2.alloc _).drew) (J w8.heap.size 0) 1 1 [.string ((⟨#[97,98,99,100]⟩:ByteArray).extract l (l+1)++X)] (by rfl) (by rfl) (World.news_of_block (cs:=#[.string ((⟨#[97,98,99,100]⟩:ByteArray).extract l (l+1)++X)]) (t:=9) (fr:=(0,0)) (heap_alloc_new w8 _)) (by intro u hu;simp at hu;rw[hu];rfl) (by omega) (by unfold maxLen;omega) (by omega) (by simp) (w8.heap.size+1) (by simp) ?_;intro gg cap2 w9 qL hgrow hat fJ;have s0:=(hgrow.cell_far (J C 1) (by simp;omega) hCg).trans (K1 _);have s1:=(hgrow.frozen_far (J C 1) (by simp;omega) hCg).trans (F1 _))
        all_goals
         have hr9:Row Jf w9 (Jn gg (m+1) cap2) ((Ks l).words++[aT l++x]):=jq (by rw[DX.o.len,HMM.o.1]) (by rw[HLC.o,HXX.o];rfl) qL;have hf9:aN (w8.alloc (.cells #[.string ((⟨#[97,98,99,100]⟩:ByteArray).extract l (l+1)++X)] 9)).drew kw (Jn gg (m+1) cap2):=gW (H:=w8.heap.size+1) (by rw[HKW.o];exact hat) (by show (w8.alloc _).heap.size<=w8.heap.size+1;simp);have wC:=(gU.o.no (((Mod.refl _ _).alloc (.cells #[.string ((⟨#[97,98,99,100]⟩:ByteArray).extract l (l+1)++X)] 9)).drew)).word (by rw[HKW.o];exact hgrow) hr9 hf9;have hQ9:=((HQ8.o.alloc _).drew).grown hgrow (fun e=>HQ8.o.apart gU.o.wo (by decide) (by rw[HKW.o];exact e.symm));have aFk:Hd (aG (w9.setCell (J C 1) (Jn gg (m+1) cap2)) Q (qc Nv (l+1)) 102):=hQ9.other (a:=J C 1) (HQ8.o.diff gU.o.kin (by decide)) _;generalize w9.setCell (J C 1) (Jn gg (m+1) cap2)=w10 at wC aFk ⊢;have wC:Hd (KI w vx vh a C ka (Jn gg (m+1) cap2) kh2 { { Ks l with hits:=(Ks (l+1)).hits } with words:=(Ks l).words++[aT l++x] } w10):=wC;clear hr9 hf9 hQ9 qL hgrow hat fJ s0 s1 hown2 d1 K1 F1 cx af hz0 hz1 hz2;go_wp2;go_roundg (4-(l+1))
         case measure=>omega
         case rel=>exact⟨l+1,_,kh2,by go_num,by omega,rfl,by rw[HKE.o];exact wC.o,aFk.o⟩
       ·have hnm:((Nv l:Int)==(m:Int))=false:=by rw[beq_eq_false_iff_ne];omega
        have HKE:Hd (Ks (l+1)={ Ks l with hits:=(Ks (l+1)).hits }):=by
         show Ks (l+1)=_;have h1:=HS.o.ad
         revert h1 hwx
         generalize Ks (l+1)=kk;intro h1 h2;cases kk;simp at h1 h2 ⊢;exact⟨h2,h1⟩
        clear hown2 hkw hw8 hmz hwx hold;go_quiet (fail);go_wp2;go_roundg (4-(l+1))
        case measure=>omega
        case rel=>exact⟨l+1,kw,kh2,by go_num,by omega,rfl,by rw[HKE.o];exact AY.o.no ((Mod.refl _ _).drewN _),HQ7.o.drewN _⟩
     ·obtain rfl:l=4:=by omega
      obtain⟨o1,o2,o3,o4⟩:=HSP.o 4 (by omega);obtain⟨m,hm⟩:=eX ((Ks 4).hits.length);obtain⟨ha3,Vw,hkh,-,-⟩:=hI.hi.open hm.symm;have c2:=hI.kin.cell 2 rfl;rw[hkh]at c2;rcases ny.o with ⟨hbig,rfl⟩ | ⟨hsmall,QC⟩
      ·have aGA:(24:Int)<(m:Int):=by omega
       have r0:=hI.res.cell 0 rfl;have r1:=hI.res.cell 1 rfl;have r2:=hI.res.cell 2 rfl;have f0:=hI.res.free 0;have f1:=hI.res.free 1;have f2:=hI.res.free 2;clear hI hQ hkh;go_wp2;refine bodyPost_ret (v:=.tuple #[.agg #[aH,aH,aH],.bool false]) (by simp[results,results56,go_sem,r0,r1,r2]) rfl ?_;refine⟨?_,rfl⟩;have hC:=HI.o.oC;exact((HI.o.md.setCell (a:=⟨w.heap.size+1,0,none⟩) (fun e=>absurd e (by simp)) _).setCell (a:=⟨w.heap.size+1,1,none⟩) (fun e=>absurd e (by simp)) _).setCell (a:=⟨w.heap.size+1,2,none⟩) (fun e=>absurd e (by simp)) _
      ·have aGA:¬(24:Int)<(m:Int):=by omega
       have aAr:Hd (jH a g (i+1) { Ks 4 with ahead:=(Ks 4).ahead++[⟨Nv 0,Nv 1,Nv 2,Nv 3⟩] }=some r):=QC;obtain⟨i0,af,hz0,hz1,hz2⟩:=info_parts aIC;have d0:=hI.kin.cell 0 rfl;rw[HKA.o]at d0;change aG wr Q [I (Nv 0:Int),I (Nv 1:Int),I (Nv 2:Int),I (Nv 3:Int)] 102 at hQ;have q0:=hQ.cell 0 rfl;have q1:=hQ.cell 1 rfl;have q2:=hQ.cell 2 rfl;have q3:=hQ.cell 3 rfl;have Ce:Hd ((Ks 4).ahead.length=i):=qH <| by rw[o4];exact HAH.o
       have hown:wr.ownsRow 0 102 4 (.slice ha1 i hcap1) i ((Ks 4).ahead.flatMap nC.f):=by
        have h2:wr.ownsRow 0 102 4 ka (Ks 4).ahead.length ((Ks 4).ahead.flatMap nC.f):=hI.ah
        rwa [Ce.o,HKA.o]at h2
       have aGz:=hI.kin.lt;have hAx:some C≠(Value.slice ha1 i hcap1).ownBlock:=by rw[<-HKA.o];exact fun e=>hI.kin.apart hI.ah (by decide) e.symm
       have DX:Hd (KOk (Ks 4)∧(Ks 4).hits.length<=24):=⟨o1,by omega⟩;clear hI hQ QC o1 o2 o3 o4 hkh;go_wp2_with (at_builtin;refine wpList_append_lies _ rfl _ _ 80 rfl 0 102 i0 _ 4 32 underlying80 af hz0 hz1 hz2 rfl (by omega) (.slice ha1 i hcap1) i ((Ks 4).ahead.flatMap nC.f) rfl (hown.alloc _) (J wr.heap.size 0) 1 1 [I (Nv 0:Int),I (Nv 1:Int),I (Nv 2:Int),I (Nv 3:Int)] rfl rfl (World.news_of_block (cs:=#[I (Nv 0:Int),I (Nv 1:Int),I (Nv 2:Int),I (Nv 3:Int)]) (t:=102) (fr:=(0,0)) (heap_alloc_new wr _)) (by intro u hu;simp at hu;rcases hu with rfl | rfl | rfl | rfl <;> rfl) (by omega) (by unfold maxLen;omega) (by omega) (by simp) (wr.heap.size+1) (by simp) ?_);intro gg cap2 w7 gV hgrow hat fJ;have Vr:=HI.o.no ((Mod.refl _ _).alloc (.cells #[I (Nv 0:Int),I (Nv 1:Int),I (Nv 2:Int),I (Nv 3:Int)] 102));have vY:Row nC w7 (Jn gg (i+1) cap2) ((Ks 4).ahead++[⟨Nv 0,Nv 1,Nv 2,Nv 3⟩]):=jq Ce.o rfl gV;have Cb:aN (wr.alloc (.cells #[I (Nv 0:Int),I (Nv 1:Int),I (Nv 2:Int),I (Nv 3:Int)] 102)) ka (Jn gg (i+1) cap2):=gW (H:=wr.heap.size+1) (by rw[HKA.o];exact hat) (by simp);have hK7:=Vr.kin.grown hgrow hAx;have a0:=hK7.cell 0 rfl;rw[HKA.o]at a0;have b0:=hK7.free 0;have gU:=Vr.row (by rw[HKA.o];exact hgrow) vY Cb;obtain⟨w8,hw8⟩:∃w8,w7.setCell (J C 0) (Jn gg (i+1) cap2)=w8:=⟨_,rfl⟩;rw[hw8]at gU;have gU:Hd (KI w vx vh a C (Jn gg (i+1) cap2) kw kh { Ks 4 with ahead:=(Ks 4).ahead++[⟨Nv 0,Nv 1,Nv 2,Nv 3⟩] } w8):=gU;clear Vr Cb vY hK7 gV hgrow hat fJ hown d0 q0 q1 q2 q3 af hz0 hz1 hz2 hAx HI HQ;go_wp2;go_roundg g
       case measure=>omega
       case rel=>
        have hlen:i+1<=30:=by omega
        exact⟨i+1,_,kw,kh,_,by go_num,gU.o,⟨DX.o.1.six,DX.o.1.len,DX.o.1.pos,DX.o.1.wl⟩,DX.o.2,aAr.o,by simp[Ce.o],hlen⟩
end
section
open Go.RowKit
attribute [local go_sem ↓] Go.wp_at_zero Go.wp_at_succ
variable {P:Program} {W w wr wr':World} {fB:List (aI.Rule × Value)} {ss ks:List Nat} {d r:Nat × List UInt8} {ka kw kh vr vs kd u:Value} {v:M2.View} {acc:List UInt8}
def After(W:World):Type:={ w':World // Mod No W w' }
theorem aIw{id:Nat}{Q:Exit->Act->World->Prop}{a:Act}{l:List Oper}(hm:P.follows .mixedOrders=true)(hB:Region.lexB .any l.toArray=true)
  (h:wpQuiet P l.toArray (fun w'=>∃x:After W,w'=x.val) (fun a'=>∀w',(∃x:After W,w'=x.val)->Q .normal a' w') l a):(Code.region id l.toArray true).wp P Q a W:=wp_region_quiet (C:=fun w'=>∃x:After W,w'=x.val) hm hB ⟨⟨W.drew,(Mod.refl _ _).drew⟩,rfl⟩ (by simpa using h)
theorem Calls.calm{f:FuncId}{args:Array Value}{x:After W}{v:Value}(h:Calls P f args x.val fun e w'=>e=.returned v∧Mod No x.val w'):Calls P f args x.val fun e w''=>e=.returned v∧∃y:After W,w''=y.val:=h.mono fun _ w' ⟨he,hm⟩=>⟨he,⟨w',x.property.no hm⟩,rfl⟩
def dc(d:Nat × List UInt8):List Value:=[I d.1,.string ⟨d.2.toArray⟩]
theorem QD{k:dI}{kind:Nat}{i:Nat}{p:aI.Rule × Value}{s:Nat}(hp:fB[i]?=some p)(hs:ss[i]?=some s)(h:dU k kind ((fB.drop i).map Prod.fst) (ss.drop i) d=some r):dU k kind ((fB.drop (i+1)).map Prod.fst) (ss.drop (i+1)) (if lX k kind s&&decide (d.1<p.1.fr.length) then (p.1.fr.length,p.1.tt) else d)=some r:=by
 obtain⟨h1,h2⟩:=bU hp;obtain⟨h3,h4⟩:=bU hs;rw[kJ h1,kJ h3,map_cons,dU,h2,h4]at h;exact h
structure CI(w:World)(ka kw kh:Value)(vr:Value)(fB:List (aI.Rule × Value))(vs:Value)(ss:List Nat)(d:Nat × List UInt8)(wr:World):Prop where
 box:aG wr w.heap.size [ka,kw,kh] 83
 res:aG wr (w.heap.size+1) (dc (0,[])) 145
 dd:aG wr (w.heap.size+1+1) (dc d) 145
 ru:Row RuE wr vr fB
 st:Row dh wr vs ss
 md:Mod No w wr
theorem CI.no(h:CI w ka kw kh vr fB vs ss d wr)(hm:Mod No wr wr'):CI w ka kw kh vr fB vs ss d wr':=⟨h.box.mod hm (fun x=>x),h.res.mod hm (fun x=>x),h.dd.mod hm (fun x=>x),h.ru.no hm,h.st.no hm,h.md.no hm⟩
theorem CI.put(h:CI w ka kw kh vr fB vs ss d wr)(d':Nat × List UInt8):CI w ka kw kh vr fB vs ss d' ((wr.setCell ⟨w.heap.size+1+1,0,none⟩ (I d'.1)).setCell ⟨w.heap.size+1+1,1,none⟩ (.string ⟨d'.2.toArray⟩)):=by
 have hm:Mod (fun q=>q=w.heap.size+1+1) wr ((wr.setCell ⟨w.heap.size+1+1,0,none⟩ (I d'.1)).setCell ⟨w.heap.size+1+1,1,none⟩ (.string ⟨d'.2.toArray⟩)):=((Mod.refl (fun q=>q=w.heap.size+1+1) wr).setCell (a:=⟨w.heap.size+1+1,0,none⟩) (fun _=>rfl) _).setCell (a:=⟨w.heap.size+1+1,1,none⟩) (fun _=>rfl) _;exact⟨h.box.mod hm (by omega),h.res.mod hm (by omega),(h.dd.set 0 _).set 1 _,h.ru.mod hm (fun g hg e=>h.dd.apart h.ru (by decide) (by rw[hg,e])),h.st.mod hm (fun g hg e=>h.dd.apart h.st (by decide) (by rw[hg,e])),h.md.trans' hm (fun k hk e=>by omega)⟩
theorem TS(w:World)(a1 a2:Option Addr)(n1 c1 n2 c2:Nat)(kh:Value)(k:dI)(kind:Nat)(vr:Value)(fB:List (aI.Rule × Value))(vs:Value)(ss:List Nat)(xZ:Row RuE w vr fB)(hss:Row dh w vs ss)(hsl:∀r∈fB,∃a n c,r.2=.slice a n c)(hfr:∀r∈fB,r.1.fr.length<=1000)(hlen:fB.length=ss.length)(hs6:∀s∈ss,s<60)(hh:Row Pj w kh k.hits)(h6:∀h∈k.hits,h.length=60)(hk:kind<k.hits.length)(hl:k.hits.length<=1000)(hpl:fB.length<=1000)(hM:dU k kind (fB.map Prod.fst) ss (0,[])=some r):J1 57 #[vr,vs,.agg #[.slice a1 n1 c1,.slice a2 n2 c2,kh],I kind] w fun e w'=>e=.returned (.agg (dc r).toArray)∧Mod No w w':=by
 obtain⟨a3,n3,c3,hkh⟩:∃a n c,kh=.slice a n c:=by obtain⟨a,c,h,_⟩:=hh.any;exact⟨_,_,_,h⟩
 have H47:Hd (∀(wx:World) (s:Nat),Mod No w wx->s<60->J1 91 #[.agg #[.slice a1 n1 c1,.slice a2 n2 c2,.slice a3 n3 c3],I kind,I s] wx fun e w'=>e=.returned (.bool (lX k kind s))∧Mod No wx w'):=fun wx s hm hs=>by
  rw[<-hkh];exact TR wx a1 a2 n1 c1 n2 c2 kh k kind s (hh.no hm) h6 hk hs hl
 obtain⟨n,hn⟩:=eX fB.length;obtain⟨ra,aDS,hvr,-,-⟩:=xZ.open hn.symm;obtain⟨sa,scap,hvs,-,-⟩:=hss.open (n:=n) (by omega);have HVR:Hd (vr=.slice ra n aDS∧vs=.slice sa n scap):=⟨hvr,hvs⟩;have HL:Hd (n=fB.length∧n=ss.length):=⟨hn,by omega⟩;have HSL:=qH hsl;have Qq:=qH hfr;have HS6:=qH hs6;have HM:Hd (dU k kind ((fB.drop 0).map Prod.fst) (ss.drop 0) (0,[])=some r):=hM;have HI0:Hd (∀A B C,A=Obj.cells #[.slice a1 n1 c1,.slice a2 n2 c2,.slice a3 n3 c3] 83->B=Obj.cells #[I 0,.string ⟨#[]⟩] 145->C=Obj.cells #[I 0,.string ⟨#[]⟩] 145->CI w (.slice a1 n1 c1) (.slice a2 n2 c2) (.slice a3 n3 c3) vr fB vs ss (0,[]) (((w.alloc A).alloc B).alloc C)):=by
  intro A B C hA hB hC;subst hA hB hC;have m:Mod No w (((w.alloc (.cells #[.slice a1 n1 c1,.slice a2 n2 c2,.slice a3 n3 c3] 83)).alloc (.cells #[I 0,.string ⟨#[]⟩] 145)).alloc (.cells #[I 0,.string ⟨#[]⟩] 145)):=(((Mod.refl _ _).alloc _).alloc _).alloc _;exact⟨vV w _ _ _,tu w _ _ _,uD w _ _ _,xZ.no m,hss.no m,m⟩
 have hn1:n<=1000:=by omega
 rw[hkh,hvr,hvs];clear hkh hvr hvs hlen hn hpl;go_enter func57,ntmps57;go_wp2_with fail;have HI1:=HI0.o _ _ _ rfl rfl rfl;generalize ((w.alloc (.cells #[.slice a1 n1 c1,.slice a2 n2 c2,.slice a3 n3 c3] 83)).alloc (.cells #[I 0,.string ⟨#[]⟩] 145)).alloc (.cells #[I 0,.string ⟨#[]⟩] 145)=W0 at HI1 ⊢;have HI1:=qH HI1;go_loopg [14] n (fun gh v14 wr=>∃(i:Nat) (d:Nat × List UInt8),i<=n∧gh=n-i∧v14=I i∧d.1<=1000∧dU k kind ((fB.drop i).map Prod.fst) (ss.drop i) d=some r∧CI w (.slice a1 n1 c1) (.slice a2 n2 c2) (.slice a3 n3 c3) vr fB vs ss d wr)
 case atStart=>exact⟨0,(0,[]),by omega,by omega,rfl,by simp,HM.o,HI1.o⟩
 case round=>
  obtain⟨i,d,hin,hgk,rfl,hd1,hgo,hI⟩:=hrel;have HI:=qH hI;by_cases hlt:i<n
  ·obtain⟨p,hp⟩:∃p,fB[i]?=some p:=⟨fB[i]'(by have:=HL.o.1;omega),bG _⟩;obtain⟨s,hs⟩:∃s,ss[i]?=some s:=⟨ss[i]'(by have:=HL.o.2;omega),bG _⟩;have Jg:=qH (QD hp hs hgo);obtain⟨gr,hgr⟩:∃g,ra=some (J g 0):=by
    obtain⟨g2,c2,h2,-⟩:=hI.ru.form (by have:=HL.o.1;omega);rw[HVR.o.1]at h2;injection h2 with h2 _;exact⟨g2,h2⟩
   obtain⟨gs,hgs⟩:∃g,sa=some (J g 0):=by
    obtain⟨g2,c2,h2,-⟩:=hI.st.form (by have:=HL.o.2;omega);rw[HVR.o.2]at h2;injection h2 with h2 _;exact⟨g2,h2⟩
   subst hgr hgs;have xZ:=hI.ru;rw[HVR.o.1]at xZ;have hst:=hI.st;rw[HVR.o.2]at hst;obtain⟨pa,pn,pc,hpv⟩:=HSL.o p (iI hp);have hpf:=Qq.o p (iI hp);have aDT:=HS6.o s (iI hs);obtain⟨⟨fr,tt,ps,wh⟩,pv⟩:=p;simp only at hpv hpf Jg;subst hpv;have r0:wr.cell? (J gr (i*6))=some (.string ⟨fr.toArray⟩):=xZ.cell i 0 hp rfl;have r1:wr.cell? (J gr (i*6+1))=some (.string ⟨tt.toArray⟩):=xZ.cell i 1 hp rfl;have r2:wr.cell? (J gr (i*6+2))=some (.slice pa pn pc):=xZ.cell i 2 hp rfl;have r3:wr.cell? (J gr (i*6+3))=some (.bool wh.e):=xZ.cell i 3 hp rfl;have r4:wr.cell? (J gr (i*6+4))=some (.int .u32 wh.f):=xZ.cell i 4 hp rfl;have r5:wr.cell? (J gr (i*6+5))=some (.int .u32 wh.l):=xZ.cell i 5 hp rfl;have aCg:=qH fun wx (hm:Mod No w wx)=>H47.o wx s hm aDT
   have HSI:=qH hs;have hii:(i:Int)<n:=by omega
   generalize lX k kind s=hb at Jg aCg;obtain⟨FR,hFR⟩:=eX (⟨fr.toArray⟩:ByteArray);obtain⟨TT,IQ⟩:=eX (⟨tt.toArray⟩:ByteArray);rw[<-hFR]at r0;rw[<-IQ]at r1;have HFT:Hd (FR.size=fr.length∧TT=(⟨tt.toArray⟩:ByteArray)):=⟨by rw[hFR];show fr.toArray.size=_;simp,IQ⟩;clear hI xZ hst hp hs hgo hFR IQ;go_wp2_with fail;have HI2:Hd (CI w (.slice a1 n1 c1) (.slice a2 n2 c2) (.slice a3 n3 c3) vr fB vs ss d (wr.alloc (.cells #[.string FR,.string TT,.slice pa pn pc,.bool wh.e,.int .u32 wh.f,.int .u32 wh.l] 134))):=HI.o.no ((Mod.refl _ _).alloc _);have HP2:Hd (aG (wr.alloc (.cells #[.string FR,.string TT,.slice pa pn pc,.bool wh.e,.int .u32 wh.f,.int .u32 wh.l] 134)) wr.heap.size [.string FR,.string TT,.slice pa pn pc,.bool wh.e,.int .u32 wh.f,.int .u32 wh.l] 134):=heap_alloc_new wr _;generalize wr.alloc (.cells #[.string FR,.string TT,.slice pa pn pc,.bool wh.e,.int .u32 wh.f,.int .u32 wh.l] 134)=W2 at HI2 HP2 ⊢;generalize wr.heap.size=P at HP2 ⊢;have b0:=HI2.o.box.cell 0 rfl;have b1:=HI2.o.box.cell 1 rfl;have b2:=HI2.o.box.cell 2 rfl;have hst:=HI2.o.st;rw[HVR.o.2]at hst;have cs:=dh.cell hst HSI.o;go_cut [14,33] from 14 to 40 (fun s14 s33 wc=>s14=I i∧s33=.bool (hb&&decide (d.1<fr.length))∧Mod No W2 wc)
   case first=>
    have hfi:=HFT.o.1;have hne:Nonempty (After W2):=⟨⟨W2,Mod.refl _ _⟩⟩;have e0:=fun(x:After W2)=>(HI2.o.box.mod x.property (fun y=>y)).cell 0 rfl
    have e1:=fun(x:After W2)=>(HI2.o.box.mod x.property (fun y=>y)).cell 1 rfl
    have e2:=fun(x:After W2)=>(HI2.o.box.mod x.property (fun y=>y)).cell 2 rfl
    have e3:∀x:After W2,x.val.cell? (J gs i)=some (I s):=fun x=>by
     have h:=HI2.o.st.no x.property;rw[HVR.o.2]at h;exact dh.cell h HSI.o
    have e4:=fun(x:After W2)=>(HP2.o.mod x.property (fun y=>y)).cell 0 rfl
    have e5:=fun(x:After W2)=>(HI2.o.dd.mod x.property (fun y=>y)).cell 0 rfl
    cases hb with
    | false=>
     refine aIw (by kernel_rfl) (by kernel_rfl) ?_;repeat (quiet_step (exact Calls.calm (aCg.o _ (HI2.o.md.no (Subtype.property _)))))
     refine wpQuiet_nil ?_;rintro _ ⟨x,rfl⟩;go_wp2_with fail;go_meet;exact⟨rfl,rfl,x.property⟩
    | true=>
     refine aIw (by kernel_rfl) (by kernel_rfl) ?_;repeat (quiet_step (exact Calls.calm (aCg.o _ (HI2.o.md.no (Subtype.property _)))))
     refine wpQuiet_nil ?_;rintro _ ⟨x,rfl⟩;go_wp2_with fail;go_meet;exact⟨rfl,by simp,x.property⟩
   case rest=>
    obtain⟨rfl,rfl,mc⟩:=hcut;have HI3:=qH (HI2.o.no mc);have HP3:=qH (HP2.o.mod mc (fun x=>x));cases hq:(hb&&decide (d.1<fr.length))with
    | true=>
     have aAr:Hd (dU k kind ((fB.drop (i+1)).map Prod.fst) (ss.drop (i+1)) (fr.length,tt)=some r):=by have h:=Jg.o;rw[hq]at h;exact h
     have p0:=HP3.o.cell 0 rfl;have p1:=HP3.o.cell 1 rfl;have d0:=HI3.o.dd.cell 0 rfl;have d1:=HI3.o.dd.cell 1 rfl;have f0:=HI3.o.dd.free 0;have f1:=HI3.o.dd.free 1;go_wp2;go_roundg (n-(i+1))
     case measure=>omega
     case rel=>exact⟨i+1,(fr.length,tt),by omega,rfl,by go_num,hpf,aAr.o,by rw[HFT.o.1,HFT.o.2];exact HI3.o.put (fr.length,tt)⟩
    | false=>
     have aAr:Hd (dU k kind ((fB.drop (i+1)).map Prod.fst) (ss.drop (i+1)) d=some r):=by have h:=Jg.o;rw[hq]at h;exact h
     go_wp2;go_roundg (n-(i+1))
     case measure=>omega
     case rel=>exact⟨i+1,d,by omega,rfl,by go_num,hd1,aAr.o,HI3.o⟩
  ·obtain rfl:i=n:=by omega
   have e1:fB.drop i=[]:=drop_of_length_le (by have:=HL.o.1;omega);have e2:ss.drop i=[]:=drop_of_length_le (by have:=HL.o.2;omega);rw[e1,e2]at hgo;have HR:Hd (d=r):=dY hgo;have d0:=hI.dd.cell 0 rfl;have d1:=hI.dd.cell 1 rfl;have r0:=hI.res.cell 0 rfl;have r1:=hI.res.cell 1 rfl;have f0:=hI.res.free 0;have f1:=hI.res.free 1;go_wp2;refine bodyPost_ret (v:=.agg #[I d.1,.string ⟨d.2.toArray⟩]) (by simp[results,results57,go_sem,r0,r1]) rfl ⟨by rw[<-HR.o];rfl,?_⟩;exact(HI.o.md.setCell (a:=⟨w.heap.size+1,0,none⟩) (fun e=>absurd e (by simp)) _).setCell (a:=⟨w.heap.size+1,1,none⟩) (fun e=>absurd e (by simp)) _
theorem Gn(v:M2.View)(c:UInt8)(cs:List UInt8)(k:Nat)(ks:List Nat)(acc:List UInt8)(tc:Nat):oO v (c::cs) (k::ks) acc tc=oO v cs ks (acc++(aW v k tc (aI.num c)).1) (aW v k tc (aI.num c)).2:=rfl
theorem Ia(a b:List UInt8):Lib.byteCells a++Lib.byteCells b=Lib.byteCells (a++b):=by simp[Lib.byteCells]
theorem xk(a:List UInt8):Lib.strCells ⟨a.toArray⟩=Lib.byteCells a:=by rw[strCells_eq]
structure RI(w:World)(ka kw kh kd:Value)(v:M2.View)(u:Value)(ks:List Nat)(vs:Value)(acc:List UInt8)(wr:World):Prop where
 box:aG wr w.heap.size [ka,kw,kh,kd] 86
 kin:Row dh wr u ks
 own:wr.ownsRow w.heap.size 5 1 vs acc.length (Lib.byteCells acc)
 md:Mod No w wr
 fu:∀g,u.ownBlock=some g->w.heap.size<=g
theorem RI.no(h:RI w ka kw kh kd v u ks vs acc wr)(hm:Mod No wr wr'):RI w ka kw kh kd v u ks vs acc wr':=by
 refine⟨h.box.mod hm (fun x=>x),h.kin.no hm,?_,h.md.no hm,h.fu⟩;exact World.ownsRow.kept h.own (row:=none) ⟨hm.os,hm.tape,hm.output,hm.size,fun k hk _=>hm.block k hk (fun x=>x)⟩ (by
  cases vs.ownBlock with
  | none=>exact .inl rfl
  | some g=>exact .inr (by simp))
theorem RI.app{v2:Value}{s:List UInt8}(h:RI w ka kw kh kd v u ks vs acc wr)(ho:wr'.ownsRow w.heap.size 5 1 v2 (acc.length+s.length) (Lib.byteCells acc++Lib.byteCells s))(hg:wr.grownBy wr' vs.ownBlock):RI w ka kw kh kd v u ks v2 (acc++s) wr':=by
 have hrow:∀g,vs.ownBlock=some g->∃cs,wr.heap[g]?=some (.cells cs 5 (0,0)):=fun g hg=>by
  rcases h.own.2 with ⟨rfl,_⟩ | ⟨g1,cap,cur,rfl,_,hh,_⟩
  ·cases hg
  ·have:g1=g:=dY hg;subst this;exact⟨cur,hh⟩
 refine⟨h.box.grown hg (fun e=>?_),h.kin.grown hg ?_,?_,h.md.grown hg (fun g e hlt=>?_),h.fu⟩
 ·obtain⟨cs,hh⟩:=hrow _ e.symm;have hb:wr.heap[w.heap.size]?=some (.cells #[ka,kw,kh,kd] 86 (0,0)):=h.box;rw[hb]at hh;cases hh
 ·cases e:u.ownBlock with
  | none=>exact .inl rfl
  | some g=>
   refine .inr fun e2=>?_
   obtain⟨cs,hh⟩:=hrow g e2.symm;rcases h.kin.2 with ⟨rfl,_⟩ | ⟨g1,cap,cur,rfl,_,hh2,_⟩
   ·cases e
   ·have:g1=g:=dY e;subst this;rw[hh]at hh2;cases hh2
 ·rw[length_append,<-Ia];exact ho
 ·have:=(World.ownsRow.lt h.own g e).1;omega
theorem zy(w:World)(ka kw kh kd:Value)(v:M2.View)(hv:VOk v)(s:ByteArray)(b0 tc:Nat)(h2:I9 kw)(h3:I9 kh)(ha:Row nC w ka v.k.ahead)(hd:Row DeE w kd v.jX)(hs:s.size<=100000)(hb:b0<v.k.ahead.length)(htc:tc<=4){r:List UInt8 × Nat}(hM:qU v s.data.toList b0 tc=some r):J1 125 #[.agg #[ka,kw,kh,kd],.string s,I b0,I tc] w fun e w'=>e=.returned (.tuple #[.string ⟨r.1.toArray⟩,I r.2])∧Mod No w w':=by
 unfold qU at hM;rw[aU (by omega)]at hM;split at hM
 ·cases hM
 ·rename_i ks kb hal;have hr:=dY hM;have HAL:Hd (∀wx,Mod No w wx->J1 144 #[.agg #[ka,kw,kh,kd],.string s,I b0] wx fun e w'=>Mod No wx w'∧∃u,e=.returned u∧Row dh w' u ks∧(∀g,u.ownBlock=some g->wx.heap.size<=g)):=fun wx hm=>X5 wx ka kw kh kd v s b0 h2 h3 hd.sl (ha.no hm) (by omega) hb hv.le hal
  have Ox:Hd (∀k∈ks,k<v.k.ahead.length):=Ph v hv _ _ _ hal;have Ce:Hd (ks.length=s.size):=qH <| by
   have:=BG v _ _ _ hal;rw[this,bK]
  have HST:=qH fun(wx:World) (k:Nat) (t:Nat) (l:Nat) (hm:Mod No w wx) (hk:k<v.jX.length) (ht:t<=4) (hl:l<4)=>xB wx ka kw kh kd v k t l ha.sl h2 h3 (hd.no hm) hl hk (by omega) (by have:=hv.le;have:=hv.len;omega) (fun d hd=>by have:=(hv.tak d hd).1;omega)
  have Oh:=qH jd;have HG:=qH fun(i:Nat) (h:i<s.size)=>Lib.data_getElem? s i h
  have HV:=qH hv;have HR:=qH hr;obtain⟨a2,n2,c2,rfl⟩:=h2;obtain⟨a3,n3,c3,rfl⟩:=h3;obtain⟨a1,n1,c1,hka⟩:=ha.sl;obtain⟨a4,n4,c4,hkd⟩:=hd.sl;subst hka hkd;have zf:=qH (bK s);obtain⟨n,hn⟩:=eX s.size;rw[<-hn]at Ce hs zf;have HN:=qH hn;go_enter func125,ntmps125;go_wp2_with fail;refine(HAL.o _ ((Mod.refl _ _).alloc _)).mono ?_;rintro e w1 ⟨m1,u,rfl,hu,fu⟩;obtain⟨au,cu,huv,-,-⟩:=hu.open Ce.o;have HI0:Hd (RI w (.slice a1 n1 c1) (.slice a2 n2 c2) (.slice a3 n3 c3) (.slice a4 n4 c4) v u ks (.slice none 0 0) [] w1):=⟨aG.mod (heap_alloc_new w _) m1 (fun x=>x),hu,World.ownsRow_nil _ _ _ _,((Mod.refl _ _).alloc _).no m1,fun g hg=>by have:=fu g hg;simp at this;omega⟩;have HU:=qH huv;rw[huv];go_wp2_with fail;go_loopg [3,11,23] n (fun gh v3 v11 v23 wr=>∃(i t:Nat) (acc:List UInt8),i<=n∧gh=n-i∧v23=I i∧v3=I t∧t<=4∧acc.length<=4*i∧oO v (s.data.toList.drop i) (ks.drop i) acc t=r∧RI w (.slice a1 n1 c1) (.slice a2 n2 c2) (.slice a3 n3 c3) (.slice a4 n4 c4) v u ks v11 acc wr)
  case atStart=>exact⟨0,tc,[],by omega,by omega,rfl,rfl,htc,by simp,HR.o,HI0.o⟩
  case round=>
   obtain⟨i,t,acc,hin,hgk,rfl,rfl,Vx,hac,hrun,hI⟩:=hrel;have HI:=qH hI;by_cases hlt:i<n
   ·obtain⟨k,hk⟩:∃k,ks[i]?=some k:=⟨ks[i]'(by have:=Ce.o;omega),bG _⟩;have his:i<s.size:=by have:=HN.o;omega
    have hc:=HG.o i his;obtain⟨gu,hgu⟩:∃gu,au=some (J gu 0):=by
     obtain⟨g2,c2,h2,-⟩:=hI.kin.form (by have:=Ce.o;omega);rw[HU.o]at h2;injection h2 with h2 _;exact⟨g2,h2⟩
    subst hgu;have hku:=hI.kin;rw[HU.o]at hku;have ck:=dh.cell hku hk;have hkl:=Ox.o k (iI hk);have hrun2:oO v (s.data.toList.drop (i+1)) (ks.drop (i+1)) (acc++(aW v k t (aI.num s[i])).1) (aW v k t (aI.num s[i])).2=r:=by
     rw[<-hrun,<-Gn];congr 1
     ·obtain⟨h1,h2⟩:=bU hc;rw[<-h2,<-kJ h1]
     ·obtain⟨h1,h2⟩:=bU hk;rw[<-h2,<-kJ h1]
    have hnl:=aIE s[i];have hcall:=Oh.o s[i];have hst:=fun wx hm=>HST.o wx k t (aI.num s[i]) hm (by rw[HV.o.len];exact hkl) Vx hnl
    have hsm:=qM v HV.o k t (aI.num s[i]) Vx;generalize aI.num s[i]=q at hcall hst hrun2 hsm;obtain⟨sd,hsd⟩:=eX ((aW v k t q).1);obtain⟨t',ht'⟩:=eX ((aW v k t q).2);rw[<-hsd,<-ht']at hrun2 hsm hst;have aGB:=qH hrun2;have aB8:=qH hst;have b0':=hI.box.cell 0 rfl;have b1':=hI.box.cell 1 rfl;have b2':=hI.box.cell 2 rfl;have b3':=hI.box.cell 3 rfl;have aHL:(i:Int)<n:=by omega
    have hisz:(i:Int)<s.size:=by omega
    clear hI hrun hrun2 hst hc hk hku hkl hsd ht' HST;go_wp2_with fail;refine(hcall _).mono ?_;rintro e w2 ⟨rfl,rfl⟩;go_wp2_with fail;refine(aB8.o _ HI.o.md).mono ?_;rintro e w3 ⟨rfl,m3⟩;have HI3:=qH (HI.o.no m3);have hown:=HI3.o.own;obtain⟨i0,af,hz0,hz1,hz2⟩:=info_parts aIV;have hw3:=HI3.o.md.size;have hsz:(⟨sd.toArray⟩:ByteArray).size=sd.length:=by show sd.toArray.size=_;simp
    go_wp2_with (at_builtin;refine Lib.wpList_append_own_string w3 rfl _ _ 100 9 rfl w.heap.size 5 i0 underlying100 underlying9 af hz0 hz1 hz2 _ acc.length (Lib.byteCells acc) rfl hown ⟨sd.toArray⟩ rfl (by rw[hsz];unfold maxLen;omega) (by rw[hsz];omega) hw3 ?_);intro v2 w4 hown4 hg4 aAs;rw[xk]at hown4;have HI4:Hd (RI w (.slice a1 n1 c1) (.slice a2 n2 c2) (.slice a3 n3 c3) (.slice a4 n4 c4) v u ks v2 (acc++sd) w4):=HI3.o.app hown4 hg4;go_wp2;go_roundg (n-(i+1))
    case measure=>omega
    case rel=>exact⟨i+1,t',acc++sd,by omega,rfl,by go_num,rfl,hsm.2,by simp;omega,aGB.o,HI4.o⟩
   ·obtain rfl:i=n:=by omega
    have e1:s.data.toList.drop i=[]:=drop_of_length_le (by have:=zf.o;omega);have e2:ks.drop i=[]:=drop_of_length_le (by have:=Ce.o;omega);rw[e1,e2,X6]at hrun;have HRR:Hd (r=(acc,t)):=hrun.symm;have hown:=hI.own;have HM:=qH hI.md;rcases hown.2 with ⟨rfl,h0⟩ | ⟨g,cap,cur,rfl,-,-,-,-,-,-⟩
    ·have hcv:∀wx,(convert 100 9 (.slice none 0 0)).run prog wx=.ok (.string ⟨#[]⟩) wx:=fun wx=>by rw[run_convert_bytes_string wx 100 9 5 none 0 0 underlying100 underlying5 underlying9];rfl
     obtain rfl:acc=[]:=eq_nil_of_length_eq_zero h0;go_wp2;exact bodyPost_ret (v:=.tuple #[.string ⟨#[]⟩,I t]) (by simp[results,results125,go_sem]) rfl ⟨by rw[HRR.o],HM.o⟩
    ·have hcv1:=run_convert_bytes_back (P:=prog) wr 100 9 5 (J g 0) cap acc underlying100 underlying5 underlying9 (fun j hj=>hown.cells (g:=g) rfl j _ (by simp[Lib.byteCells,hj]));go_wp2;exact bodyPost_ret (v:=.tuple #[.string ⟨acc.toArray⟩,I t]) (by simp[results,results125,go_sem]) rfl ⟨by rw[HRR.o],HM.o⟩
end
section
open Go.RowKit
variable {v:M2.View} {v2:Value}
theorem X9{b:M2.Auto}(h:qV b=true):b.nx.length<=60∧0<b.nx.length∧∀r∈b.nx,∀l,l<4->TF r l<=300000:=by
 unfold qV at h;simp only[Bool.and_eq_true,decide_eq_true_eq,all_eq_true]at h;refine⟨h.1.1,h.1.2,fun r hr l hl=>?_⟩;obtain⟨⟨⟨h1,h2⟩,h3⟩,h4⟩:=h.2 r hr
 match l,hl with
 | 0,_=>show r.a<=_;omega
 | 1,_=>show r.b<=_;omega
 | 2,_=>show r.c<=_;omega
 | 3,_=>show r.d<=_;omega
theorem aDU(h:IW v=true):VOk v∧v.k.ahead.length<=24∧v.k.hits.length=v.k.ahead.length:=by
 unfold IW at h;simp only[Bool.and_eq_true,decide_eq_true_eq,all_eq_true]at h;obtain⟨⟨⟨⟨h1,h2⟩,h3⟩,h4⟩,h5⟩:=h;refine⟨⟨h1,by omega,fun row hr l k hg=>?_,h5⟩,h2,h3⟩;obtain⟨⟨⟨e1,e2⟩,e3⟩,e4⟩:=h4 row hr
 match l,hg with
 | 0,hg=>have:row.a=k:=dY hg;omega
 | 1,hg=>have:row.b=k:=dY hg;omega
 | 2,hg=>have:row.c=k:=dY hg;omega
 | 3,hg=>have:row.d=k:=dY hg;omega
theorem QE{rs:List aI.Rule}{i:Nat}{r:aI.Rule}{a:M2.Auto}{ss:List Nat}{res:Option (M2.Auto × List Nat)}(hr:rs[i]?=some r)(h:jO (rs.drop i) a ss=some res):(jM r=some none∧res=none)∨∃b,jM r=some (some b)∧qV b=true∧jO (rs.drop (i+1)) (pX a b) (ss++[a.nx.length])=some res:=by
 obtain⟨h1,h2⟩:=bU hr;rw[kJ h1,h2,jO]at h;split at h
 ·cases h
 ·rename_i hn;exact Or.inl ⟨hn,(dY h).symm⟩
 ·rename_i b hb;split at h
  ·rename_i hs;exact Or.inr ⟨b,hb,hs,h⟩
  ·cases h
theorem Jh(rs:List aI.Rule)(ss:List Nat)(k:dI):∀(n i:Nat) (d:List (Nat × List UInt8)),fQ rs ss k n i=some d->d.length=n
 | 0,i,d,h=>by rw[fQ]at h;cases h;rfl
 | n+1,i,d,h=>by
  rw[fQ]at h;split at h
  ·cases h
  ·cases hq:fQ rs ss k n (i+1)with
   | none=>rw[hq]at h;cases h
   | some x=>rw[hq]at h;cases h;simp[Jh rs ss k n (i+1) x hq]
theorem rD(rs:List aI.Rule)(ss:List Nat)(k:dI):∀(n i:Nat) (d:List (Nat × List UInt8)) (j:Nat),fQ rs ss k n i=some d->j<n->∃x,d[j]?=some x∧dU k (i+j) rs ss (0,[])=some x
 | 0,i,d,j,h,hj=>by omega
 | n+1,i,d,j,h,hj=>by
  rw[fQ]at h;split at h
  ·cases h
  ·rename_i x hx;cases hq:fQ rs ss k n (i+1)with
   | none=>rw[hq]at h;cases h
   | some y=>
    rw[hq]at h;cases h
    cases j with
    | zero=>exact⟨x,rfl,by simpa using hx⟩
    | succ j=>
     obtain⟨z,h1,h2⟩:=rD rs ss k n (i+1) y j hq (by omega);exact⟨z,by simpa using h1,by rw[show i+(j+1)=i+1+j by omega];exact h2⟩
structure VP(v:M2.View)(base:Nat)(ka kw kh kd:Value)(w':World):Prop where
 ok:VOk v
 Xa:KOk v.k
 n24:v.k.ahead.length<=24
 nh:v.k.hits.length=v.k.ahead.length
 ah:Row nC w' ka v.k.ahead
 wo:Row Jf w' kw v.k.words
 hi:Row Pj w' kh v.k.hits
 de:Row DeE w' kd v.jX
 fa:∀g,ka.ownBlock=some g->base<=g
 fw:∀g,kw.ownBlock=some g->base<=g
 fh:∀g,kh.ownBlock=some g->base<=g
 fd:∀g,kd.ownBlock=some g->base<=g
theorem VP.no{base:Nat}{ka kw kh kd:Value}{w w':World}(h:VP v base ka kw kh kd w)(hm:Mod No w w'):VP v base ka kw kh kd w':=⟨h.ok,h.Xa,h.n24,h.nh,h.ah.no hm,h.wo.no hm,h.hi.no hm,h.de.no hm,h.fa,h.fw,h.fh,h.fd⟩
def aFl(r:Option M2.View)(w:World)(e:Ending)(w':World):Prop:=Mod No w w'∧match r with
 | none=>e=.returned (.tuple #[.agg #[aH,aH,aH,aH],.bool false])
 | some v=>∃ka kw kh kd,e=.returned (.tuple #[.agg #[ka,kw,kh,kd],.bool true])∧VP v w.heap.size ka kw kh kd w'
structure NI(w:World)(vs lx lh:Value)(ss:List Nat)(au:M2.Auto)(wr:World):Prop where
 res:aG wr w.heap.size [aH,aH,aH,aH] 86
 kK:aG wr (w.heap.size+1) [lx,lh] 138
 nx:Row nC wr lx au.nx
 hit:Row lD wr lh au.hit
 st:Row dh wr vs ss
 md:Mod No w wr
 fx:∀g,lx.ownBlock=some g->w.heap.size<=g
 fh:∀g,lh.ownBlock=some g->w.heap.size<=g
 fs:∀g,vs.ownBlock=some g->w.heap.size<=g
section
variable {w:World} {vs lx lh:Value} {ss:List Nat} {au:M2.Auto} {wr wr':World}
theorem NI.no(h:NI w vs lx lh ss au wr)(hm:Mod No wr wr'):NI w vs lx lh ss au wr':=⟨h.res.mod hm (fun x=>x),h.kK.mod hm (fun x=>x),h.nx.no hm,h.hit.no hm,h.st.no hm,h.md.no hm,h.fx,h.fh,h.fs⟩
theorem NI.start{s2:List Nat}(h:NI w vs lx lh ss au wr)(hg:wr.grownBy wr' vs.ownBlock)(hrow:Row dh wr' v2 s2)(hf:aN wr vs v2):NI w v2 lx lh s2 au wr':=by
 have kb:∀{b:Nat} {cs:List Value} {T:Nat},aG wr b cs T->T≠3->aG wr' b cs T:=fun hb ht=>hb.grown hg (fun e=>hb.apart h.st ht e.symm)
 refine⟨kb h.res (by decide),kb h.kK (by decide),h.nx.grown hg (h.nx.far h.st (by decide)),h.hit.grown hg (h.hit.far h.st (by decide)),hrow,h.md.grown hg (fun g e hlt=>by have:=h.fs g e;omega),h.fx,h.fh,fun g hg=>?_⟩;rcases hf g hg with e | e
 ·exact h.fs g e
 ·have:=h.md.size;omega
theorem NI.add{X:Nat}{ux uh lx' lh':Value}{c au':M2.Auto}(h:NI w vs lx lh ss au wr)(hA:AI wr (w.heap.size+1) X lx lh ux uh c lx' lh' au' wr'):NI w vs lx' lh' ss au' wr':=by
 have hS:∀{b:Nat} {cs:List Value} {T:Nat},aG wr b cs T->T≠138->T≠102->T≠4->¬(b=w.heap.size+1∨lx.ownBlock=some b∨lh.ownBlock=some b):=fun hb h1 h2 h3 e=>by
  rcases e with e | e | e
  ·exact hb.diff h.kK h1 e
  ·exact hb.apart h.nx h2 e
  ·exact hb.apart h.hit h3 e
 refine⟨h.res.mod hA.md (hS h.res (by decide) (by decide) (by decide)),hA.kK,hA.nx,hA.hit,h.st.mod hA.md (fun g hg e=>?_),h.md.trans' hA.md (fun k hk e=>?_),fun g hg=>?_,fun g hg=>?_,h.fs⟩
 ·rcases e with e | e | e
  ·exact h.kK.apart h.st (by decide) (by rw[hg,e])
  ·exact h.st.apart h.nx (by decide) hg e
  ·exact h.st.apart h.hit (by decide) hg e
 ·rcases e with e | e | e
  ·omega
  ·have:=h.fx k e;omega
  ·have:=h.fh k e;omega
 ·rcases hA.fx g hg with e | e
  ·exact h.fx g e
  ·have:=h.md.size;omega
 ·rcases hA.fh g hg with e | e
  ·exact h.fh g e
  ·have:=h.md.size;omega
end
structure DI(w:World)(V:Nat)(ka kw kh kd:Value)(k:dI)(ds:List (Nat × List UInt8))(vs:Value)(ss:List Nat)(wr:World):Prop where
 res:aG wr w.heap.size [aH,aH,aH,aH] 86
 vie:aG wr V [ka,kw,kh,kd] 86
 ah:Row nC wr ka k.ahead
 wo:Row Jf wr kw k.words
 hi:Row Pj wr kh k.hits
 de:Row DeE wr kd ds
 st:Row dh wr vs ss
 md:Mod No w wr
 fd:∀g,kd.ownBlock=some g->w.heap.size<=g
 oV:w.heap.size<V
section
variable {w:World} {V:Nat} {ka kw kh kd:Value} {k:dI} {ds:List (Nat × List UInt8)} {vs:Value} {ss:List Nat} {wr wr':World}
theorem DI.no(h:DI w V ka kw kh kd k ds vs ss wr)(hm:Mod No wr wr'):DI w V ka kw kh kd k ds vs ss wr':=⟨h.res.mod hm (fun x=>x),h.vie.mod hm (fun x=>x),h.ah.no hm,h.wo.no hm,h.hi.no hm,h.de.no hm,h.st.no hm,h.md.no hm,h.fd,h.oV⟩
theorem DI.more{w7:World}{d2:List (Nat × List UInt8)}(h:DI w V ka kw kh kd k ds vs ss wr)(hg:wr.grownBy w7 kd.ownBlock)(hrow:Row DeE w7 v2 d2)(hf:aN wr kd v2):DI w V ka kw kh v2 k d2 vs ss (w7.setCell (J V 3) v2):=by
 have kb:∀{b:Nat} {cs:List Value} {T:Nat},aG wr b cs T->T≠145->aG w7 b cs T:=fun hb ht=>hb.grown hg (fun e=>hb.apart h.de ht e.symm)
 have hV:=kb h.vie (by decide);have oV:=h.oV;have r1:=h.ah.grown hg (h.ah.far h.de (by decide));have r2:=h.wo.grown hg (h.wo.far h.de (by decide));have r3:=h.hi.grown hg (h.hi.far h.de (by decide));have r4:=h.st.grown hg (h.st.far h.de (by decide));have sH:=h.md.grown hg fun g e hlt=>by have:=h.fd g e;omega
 refine⟨(kb h.res (by decide)).other (a:=J V 3) (by show w.heap.size≠V;omega) _,hV.set 3 v2,r1.other (a:=J V 3) (hV.apart r1 (by decide)) _,r2.other (a:=J V 3) (hV.apart r2 (by decide)) _,r3.other (a:=J V 3) (hV.apart r3 (by decide)) _,hrow.other (a:=J V 3) (hV.apart hrow (by decide)) _,r4.other (a:=J V 3) (hV.apart r4 (by decide)) _,sH.setCell (a:=J V 3) (fun e=>absurd e (by show ¬V<w.heap.size;omega)) _,fun g hg=>?_,h.oV⟩;rcases hf g hg with e | e
 ·exact h.fd g e
 ·have:=h.md.size;omega
end
end
end Go.Proofs.YtoebidlghdidoaaGreatDoor
