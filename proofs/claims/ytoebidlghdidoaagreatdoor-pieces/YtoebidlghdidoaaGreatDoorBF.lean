import Derived.Test.YtoebidlghdidoaaGreatDoorAK
set_option maxHeartbeats 8000000
set_option maxRecDepth 100000
set_option linter.unusedSimpArgs false
namespace Go.Proofs.YtoebidlghdidoaaGreatDoor
open Th Tryz List Go.RowKit
attribute [local go_sem ↓] Go.wp_at_zero Go.wp_at_succ
theorem YP:Fp:=by
 intro w b vl T nv wv ps o ho hb hl hps hT;have w4:=fun wx=>Wv (sb o.fr) wx (by rw[ai];exact ho.fr)
 have w8:=fun wx=>Wx (sb o.tt) wx (by rw[ai];exact ho.tt)
 simp only[show ∀l:List UInt8,(sb l).data.toList=l from fun l=>by simp[sb]]at w4 w8;have p9:=pick_any o.form 9 (by omega) (by omega) ho.f1 ho.f2;have hp9:=F5 o.form (n:=9) (by omega);have cx:=O9 (jJ o.form 9) o.b o.c (by omega) ho.b1 ho.b2 ho.c1 ho.c2;have Ug:Hd (o.law=⟨CV o.fr,JU o.tt,zY (jJ o.form 9) (jJ o.b 1048576) (jJ o.c 1048576)⟩):=rfl;have Qq:Hd (CV o.fr=(if jF 4 o.fr=[] then [97] else jF 4 o.fr).take 4):=rfl;have Xm:Hd (JU o.tt=(jF 8 o.tt).take 4):=rfl;have HFL:Hd ((jF 4 o.fr).length<=1048576∧(jF 8 o.tt).length<=1048576):=⟨by unfold jF;rw[length_map];exact ho.fr,by unfold jF;rw[length_map];exact ho.tt⟩;have HCK:Hd (Th.C.Ok (zY (jJ o.form 9) (jJ o.b 1048576) (jJ o.c 1048576))):=V7 _ _ _;generalize zY (jJ o.form 9) (jJ o.b 1048576) (jJ o.c 1048576)=C at cx Ug HCK;generalize jJ o.form 9=P9 at p9 hp9 cx;generalize jF 4 o.fr=X4 at w4 Qq HFL;generalize jF 8 o.tt=X8 at w8 Xm HFL;generalize CV o.fr=F at Ug Qq;generalize JU o.tt=G at Ug Xm;generalize o.law=L at Ug ⊢;unfold goV;generalize o.form=fm at p9 ⊢;generalize o.b=ob at cx ⊢;generalize o.c=oc at cx ⊢;generalize o.fr=ofr at w4 ⊢;generalize o.tt=ott at w8 ⊢;have HPB:Hd (aG (w.alloc (.cells #[I fm,I ob,I oc,.string (sb ofr),.string (sb ott)] 36)) w.heap.size [I fm,I ob,I oc,.string (sb ofr),.string (sb ott)] 36):=aG.new w _ _;have HMA:Hd (Mod No w (w.alloc (.cells #[I fm,I ob,I oc,.string (sb ofr),.string (sb ott)] 36))):=(Mod.refl No w).alloc _;have HB:=qH hb;have HL:=qH hl;clear hb hl ho;go_enter func10,ntmps10;go_wp2_with fail;refine(w4 _).mono ?_;rintro e w1 ⟨rfl,m1⟩;have DN:=qH (HMA.o.no m1);have HP1:=qH (HPB.o.mod m1 (fun x=>x));have c4:=HP1.o.cell 4 rfl;clear w4 m1 HMA HPB;go_wp2_with fail;refine(w8 _).mono ?_;rintro e w2 ⟨rfl,m2⟩;have lF:=qH (DN.o.no m2);have HP2:=qH (HP1.o.mod m2 (fun x=>x));clear w8 m2 DN HP1 c4;obtain⟨Y,hY⟩:∃Y,Y=if X4=[] then [97] else X4:=⟨_,rfl⟩
 have HY:=qH hY;rw[<-hY]at Qq;clear hY;have HYL:Hd (Y.length<=1048576):=qH <| by
  rw[HY.o];have:=HFL.o.1;split
  ·simp
  ·exact this
 go_upto_if 15 with fail;go_cut [4] from 15 to 15 (fun s4 wc=>s4=.string (sb Y)∧wc=w2)
 case first=>
  by_cases hX:X4=[]
  ·have HYE:Hd (Y=[97]):=qH <| by rw[HY.o,aP hX]
   subst hX;go_wp2_with fail;go_meet;exact⟨by rw[HYE.o],rfl⟩
  ·have HYE:Hd (Y=X4):=qH <| by rw[HY.o,aU hX]
   obtain⟨c,r,hcr⟩:∃c r,X4=c::r:=by
    cases X4 with
    | nil=>exact absurd rfl hX
    | cons c r=>exact⟨c,r,rfl⟩
   subst hcr;clear hX;go_wp2_with fail;go_meet;exact⟨by rw[HYE.o],rfl⟩
 case rest=>
  obtain⟨rfl,hwc⟩:=hcut;subst hwc;go_upto_region 5 with fail;go_cut [4] from 16 to 20 (fun s4 wd=>s4=.string (sb F)∧wd=wc)
  case first=>
   have sY:=ai Y;have sYl:=HYL.o;go_wp2_with fail
   ·go_meet;exact⟨by rw[aB0,Qq.o],rfl⟩
   ·go_meet;refine⟨?_,rfl⟩;rw[aB0,Qq.o,take_of_length_le (dH _),take_of_length_le (by omega)]
  case rest=>
   obtain⟨rfl,hwc⟩:=hcut;subst hwc;go_upto_region 6 with fail;rename_i w2;go_cut [5] from 21 to 25 (fun s5 wd=>s5=.string (sb G)∧wd=wc)
   case first=>
    have sX8:=ai X8;have aIv:=HFL.o.2;go_wp2_with fail
    ·go_meet;exact⟨by rw[aB0,Xm.o],rfl⟩
    ·go_meet;refine⟨?_,rfl⟩;rw[aB0,Xm.o,take_of_length_le (dH _),take_of_length_le (by omega)]
   case rest=>
    obtain⟨rfl,hwc⟩:=hcut;subst hwc;clear HY HYL HFL;have c0:=HP2.o.cell 0 rfl;have c1:=HP2.o.cell 1 rfl;have c2:=HP2.o.cell 2 rfl;have C0:=fun o=>HP2.o.aS 0 rfl o
    have C1:=fun o=>HP2.o.aS 1 rfl o
    have C2:=fun o=>HP2.o.aS 2 rfl o
    have cx':∀wx,J1 29 #[I P9,I ob,I oc] wx fun e w'=>∃va vn vc,e=.returned (.tuple #[.string (sb C.text),.agg #[.slice va vn vc,.bool (fK C),.int .u8 C.loopA.toNat,.int .u8 C.qJ.toNat]])∧Row NH w' (.slice va vn vc) C.words∧Mod No wx w':=fun wx=>(cx wx).mono fun e w' ⟨vw,h1,h2,h3⟩=>by
     obtain⟨va,vc,rfl,-,-,-⟩:=h2.any;exact⟨va,_,vc,h1,h2,h3⟩
    clear cx;generalize hCT:C.text=CT at cx';generalize hCL:fK C=CL at cx';generalize hCA:(C.loopA.toNat:Int)=CA at cx';generalize hCB:(C.qJ.toNat:Int)=CB at cx';have HCC:=qH (a4 hCT hCL hCA hCB);clear hCT hCL hCA hCB;generalize wc=w3 at *;go_upto_region 7 with fail;go_cut [6,7] from 26 to 36 (fun s6 s7 wd=>s6=.string (sb CT)∧∃P va vn vc,s7=Jx P 0∧w3.heap.size<=P∧aG wd P [.slice va vn vc,.bool CL,.int .u8 CA,.int .u8 CB] 71∧Row NH wd (.slice va vn vc) C.words∧Mod No w3 wd)
    case first=>
     go_region_with (first | (go_at_call 30;refine(p9 _).mono ?_;rintro e wP ⟨rfl,rfl⟩) | (go_at_call 29;refine(cx' (w3.drew.alloc _)).mono ?_;rintro e wA ⟨va,vn,vc,rfl,hrw,mA⟩;have zB:aG wA w3.heap.size [.slice none 0 0,.bool false,.int .u8 0,.int .u8 0] 71:=aG.mod (aG.new w3.drew [.slice none 0 0,.bool false,.int .u8 0,.int .u8 0] 71) mA (fun x=>x);have z0:=zB.cell 0 rfl;have z1:=zB.cell 1 rfl;have z2:=zB.cell 2 rfl;have z3:=zB.cell 3 rfl;have g0:=zB.free 0;have g1:=zB.free 1;have g2:=zB.free 2;have g3:=zB.free 3) | (go_at_call 29;refine(cx' w3.drew).mono ?_;rintro e wA ⟨va,vn,vc,rfl,hrw,mA⟩));all_goals (try go_wp2_with fail)
     all_goals go_meet
     all_goals first
      | exact⟨rfl,_,va,vn,vc,rfl,mA.size,aG.new wA _ _,hrw.alloc _,((Mod.refl _ _).drew.no mA).alloc _⟩
      | exact⟨rfl,_,va,vn,vc,rfl,dH _,(((zB.set 0 _).set 1 _).set 2 _).set 3 _,(((hrw.other (a:=J w3.heap.size 0) (hrw.blk zB (by decide)) _).other (a:=J w3.heap.size 1) (hrw.blk zB (by decide)) _).other (a:=J w3.heap.size 2) (hrw.blk zB (by decide)) _).other (a:=J w3.heap.size 3) (hrw.blk zB (by decide)) _,((((((Mod.refl No w3).drew.alloc _).no mA).setCell (a:=J w3.heap.size 0) (fun e=>absurd e (Nat.lt_irrefl _)) _).setCell (a:=J w3.heap.size 1) (fun e=>absurd e (Nat.lt_irrefl _)) _).setCell (a:=J w3.heap.size 2) (fun e=>absurd e (Nat.lt_irrefl _)) _).setCell (a:=J w3.heap.size 3) (fun e=>absurd e (Nat.lt_irrefl _)) _⟩
    case rest=>
     obtain⟨rfl,P,va,vn,vc,rfl,hP,hBP,hRW,mC⟩:=hcut;have hBa:=(HB.o.mod lF.o (fun x=>x)).mod mC (fun x=>x);have hLr:=(HL.o.mod lF.o).mod mC;have Aa:=qH (lF.o.no mC);have Ox:=qH fun g (hg:vl.ownBlock=some g)=>HL.o.row.lt hg
     have aHg:=qH HB.o.lt;have HPB:=qH (Nat.le_trans lF.o.size hP);have YZ:=qH (hLr.row.blk hBa (by decide));have HCE:Hd (Zn.f (L,.slice va vn vc)=[.string (sb F),.string (sb G),.slice va vn vc,.bool CL,.int .u8 CA,.int .u8 CB]):=by
      rw[Ug.o,<-HCC.o.2.1,<-HCC.o.2.2.1,<-HCC.o.2.2.2];exact rfl
     have HFG:Hd (F.length<=4∧G.length<=4∧CT.length<=8):=⟨by rw[Qq.o,length_take];omega,by rw[Xm.o,length_take];omega,by rw[<-HCC.o.1];exact Ew HCK.o⟩;clear c0 c1 c2 C0 C1 C2 p9 cx' HP2 lF HB HL mC hP;obtain⟨i0,af,hz0,hz1,hz2⟩:=info_parts aJk;obtain⟨a,cap,rfl,ha,hcap,-⟩:=hLr.row.any;obtain⟨n,hn⟩:=eX ps.length;have hown:wc.ownsRow 0 76 6 (.slice a n cap) n (ps.flatMap Zn.f):=by rw[hn];exact hLr.row
     have HN:=qH hn;have HLR:Hd (nZ wc (.slice a n cap) ps):=by rw[hn];exact hLr
     rw[<-hn]at hcap hps YZ Ox hBa;have HBA:=qH hBa;have HBP:=qH hBP;have HRW:=qH hRW;have c0:=hBa.cell 0 rfl;have CAa:=hBa.aS 0 rfl;have f0:=hBa.free 0;have F0:=hBa.dQ 0;have d0:=hBP.cell 0 rfl;have d1:=hBP.cell 1 rfl;have d2:=hBP.cell 2 rfl;have d3:=hBP.cell 3 rfl;have XC:∀o',b<(wc.alloc o').drew.heap.size:=fun o'=>by show b<(wc.alloc o').heap.size;have:=hBa.lt;simp;omega
     have hbne:some b≠(Value.slice a n cap).ownBlock:=fun e=>YZ.o e.symm
     clear hLr hn hBa hBP hRW;go_upto_region 8 with fail;go_cut [] from 37 to 49 (fun wd=>∃v2,aG wd b [v2,.string (sb T),nv,wv] 31∧nZ wd v2 (ps++[(L,.slice va vn vc)])∧Mod (Pt b (.slice a n cap)) w wd∧aN w (.slice a n cap) v2)
     case first=>
      go_region_law (refine step_append_lies _ (by rfl) _ _ _ (by rfl) 0 76 i0 _ 6 64 underlying28 af hz0 hz1 hz2 rfl (by omega) (.slice a n cap) n (ps.flatMap Zn.f) (by rfl) ((hown.alloc _).drew) (J wc.heap.size 0) 1 1 [.string (sb F),.string (sb G),.slice va vn vc,.bool CL,.int .u8 CA,.int .u8 CB] (by rfl) (by rfl) (World.news_of_block (cs:=#[.string (sb F),.string (sb G),.slice va vn vc,.bool CL,.int .u8 CA,.int .u8 CB]) (t:=76) (fr:=(0,0)) (heap_alloc_new wc _)) (by intro u hu;simp at hu;rcases hu with rfl | rfl | rfl | rfl | rfl | rfl <;> rfl) (by omega) (by unfold maxLen;omega) (by omega) (by simp) (wc.heap.size+1) (by simp) ?_;intro gg cap2 w1 hown1 hgrow hat fJ;have e0:w1.cell? (J b 0)=some (.slice a n cap):=(hgrow.cell_far (J b 0) (XC _) hbne).trans (CAa _);have e1:w1.frozen? (J b 0)=false:=(hgrow.frozen_far (J b 0) (XC _) hbne).trans (F0 _))
      all_goals
       have hv':(Jn gg (n+1) cap2).ownBlock=some gg:=rfl;have hgb:gg≠b:=by
        rcases hat with h | h
        ·exact fun e=>YZ.o (by rw[h,e])
        ·have h1:=aHg.o;have h2:=Aa.o.size;omega
       have hB1:=((HBA.o.alloc _).drew).grown hgrow hbne;have hR1:Row Zn w1 (Jn gg (n+1) cap2) (ps++[(L,.slice va vn vc)]):=by
        refine Row.snoc ?_;rw[HCE.o,<-HN.o];exact hown1
       have WJ:∀{v:Value} {xs:List (List UInt8)},Row NH wc v xs->Row NH w1 v xs:=fun h=>((h.alloc _).drew).grown hgrow (Row.far' h HLR.o.row (by decide))
       have hM1:Mod (Pt b (.slice a n cap)) w w1:=(((Aa.o.more (fun _ _ h=>h.elim)).alloc _).drew).grown hgrow (fun g hg _=>Or.inr hg);have aC2:∀{v:Value} {xs:List (List UInt8)},Row NH w1 v xs->v.ownBlock≠some b:=fun h=>h.blk hB1 (by decide)
       (try go_wp2_with fail)
       go_meet;refine⟨Jn gg (n+1) cap2,hB1.set 0 _,⟨hR1.other (a:=J b 0) (by rw[hv'];simpa using hgb) _,fun p hp=>?_⟩,hM1.setCell (a:=J b 0) (fun _=>Or.inl rfl) _,fun g hg=>?_⟩
       ·rcases mem_append.1 hp with hp | hp
        ·exact(WJ (HLR.o.Y5 p hp)).other (a:=J b 0) (aC2 (WJ (HLR.o.Y5 p hp))) _
        ·rw[mem_singleton.1 hp];have h2:Row NH wc (.slice va vn vc) L.c.words:=by rw[Ug.o];exact HRW.o
         exact(WJ h2).other (a:=J b 0) (aC2 (WJ h2)) _
       ·cases hg;rcases hat with h | h
        ·exact Or.inl h
        ·right;have h2:=Aa.o.size;show w.heap.size<=gg;omega
     case rest=>
      obtain⟨v2,hB4,hL4,hM4,hF4⟩:=hcut;have HF4:=qH hF4;clear hF4;clear d0 d1 d2 d3 c0 CAa f0 F0 XC hbne hown HBA HBP HRW HLR YZ Ox HCE af hz0 hz1 hz2;obtain⟨A1,hA1⟩:=eX (F++[62]);obtain⟨A2,hA2⟩:=eX (A1++G);obtain⟨T1,hT1⟩:=eX (T++A2);have lA1:A1.length<=5:=by rw[hA1,length_append];have:=HFG.o.1;simp;omega
      have lA2:A2.length<=9:=by rw[hA2,length_append];have:=HFG.o.2.1;omega
      have lT1:T1.length<=1009:=by rw[hT1,length_append];omega
      have k1:sb F++(⟨#[62]⟩:ByteArray)=sb A1:=by rw[hA1];exact dm F [62]
      have k2:sb A1++sb G=sb A2:=by rw[hA2];exact dm A1 G
      have k3:sb T++sb A2=sb T1:=by rw[hT1];exact dm T A2
      have HT1:Hd (T1=T++(F++[62]++G)):=by show T1=_;rw[hT1,hA2,hA1]
      have sF:(sb F).size<=4:=by rw[ai];exact HFG.o.1
      have sG:(sb G).size<=4:=by rw[ai];exact HFG.o.2.1
      have sT:(sb T).size<=1000:=by rw[ai];exact hT
      have sA1:(sb A1).size<=5:=by rw[ai];exact lA1
      have sA2:(sb A2).size<=9:=by rw[ai];exact lA2
      have sT1:(sb T1).size<=1009:=by rw[ai];exact lT1
      have s62:(⟨#[62]⟩:ByteArray).size=1:=rfl;have s47:(⟨#[47]⟩:ByteArray).size=1:=rfl;have s10:(⟨#[10]⟩:ByteArray).size=1:=rfl;clear hA1 hA2 hT1;have NQ:=hB4.set 1 (.string (sb T1));have q1:=hB4.cell 1 rfl;have r1:=hB4.free 1;have q2:=NQ.cell 1 rfl;have r2:=NQ.free 1;have aBd:∀{v:Value} {xs:List (List UInt8)},Row NH wc v xs->v.ownBlock≠some b:=fun h=>h.blk hB4 (by decide)
      have hvb:=hL4.row.blk hB4 (by decide);have aCi:Hd (∀T3,T3=T++(bH F G C++[10])->∀wz,aG wz b [v2,.string (sb T3),nv,wv] 31->nZ wz v2 (ps++[(L,.slice va vn vc)])->Mod (Pt b (.slice a n cap)) w wz->(∃vl' vw,aG wz b [vl',.string (sb (T++(bH L.fr L.tt L.c++[10]))),nv,wv] 31∧nZ wz vl' (ps++[(L,vw)])∧Mod (Pt b (.slice a ps.length cap)) w wz∧aN w (.slice a ps.length cap) vl')):=fun T3 h3 wz h4 h5 h6=>⟨v2,.slice va vn vc,by rw[Ug.o,<-h3];exact h4,h5,by rw[<-HN.o];exact h6,by rw[<-HN.o];exact HF4.o⟩
      have HL4:Hd (∀x:Value,nZ (wc.setCell (J b 1) x) v2 (ps++[(L,.slice va vn vc)])):=fun x=>⟨hL4.row.other (a:=J b 1) hvb x,fun p hp=>(hL4.Y5 p hp).other (a:=J b 1) (aBd (hL4.Y5 p hp)) x⟩
      have HL5:Hd (∀x y:Value,nZ ((wc.setCell (J b 1) x).setCell (J b 1) y) v2 (ps++[(L,.slice va vn vc)])):=fun x y=>⟨(HL4.o x).row.other (a:=J b 1) hvb y,fun p hp=>((HL4.o x).Y5 p hp).other (a:=J b 1) (aBd (hL4.Y5 p hp)) y⟩
      have HL6:Hd (∀x y z:Value,nZ (((wc.setCell (J b 1) x).setCell (J b 1) y).setCell (J b 1) z) v2 (ps++[(L,.slice va vn vc)])):=fun x y z=>⟨(HL5.o x y).row.other (a:=J b 1) hvb z,fun p hp=>((HL5.o x y).Y5 p hp).other (a:=J b 1) (aBd (hL4.Y5 p hp)) z⟩
      have HM5:=qH fun(x:Value) (y:Value)=>(hM4.setCell (a:=J b 1) (fun _=>Or.inl rfl) x).setCell (a:=J b 1) (fun _=>Or.inl rfl) y
      have HM6:=qH fun(x:Value) (y:Value) (z:Value)=>(HM5.o x y).setCell (a:=J b 1) (fun _=>Or.inl rfl) z
      have HB4:=qH hB4;by_cases hct:CT=[]
      ·have HTX:Hd (T1++[10]=T++(bH F G C++[10])):=by
        show T1++[10]=_;rw[HT1.o];unfold bH;rw[HCC.o.1,hct];simp[iG]
       have k6:sb T1++(⟨#[10]⟩:ByteArray)=sb (T1++[10]):=dm T1 [10];subst hct;clear hL4 hM4 hB4 NQ aBd hvb;go_wp2_with fail;go_end0;exact⟨rfl,aCi.o _ HTX.o _ ((HB4.o.set 1 _).set 1 _) (HL5.o _ _) (HM5.o _ _)⟩
      ·obtain⟨c,r,hcr⟩:∃c r,CT=c::r:=by
        cases CT with
        | nil=>exact absurd rfl hct
        | cons c r=>exact⟨c,r,rfl⟩
       obtain⟨A3,hA3⟩:=eX (47::c::r);obtain⟨T2,hT2⟩:=eX (T1++A3);have HTX:Hd (T2++[10]=T++(bH F G C++[10])):=by
        show T2++[10]=_;rw[hT2,hA3,HT1.o];unfold bH;rw[HCC.o.1,hcr];simp[iG]
       have sA3:(sb A3).size<=9:=by rw[ai,hA3];have:=HFG.o.2.2;rw[hcr]at this;simp at this ⊢;omega
       have sC:(sb (c::r)).size<=8:=by rw[ai];have:=HFG.o.2.2;rw[hcr]at this;exact this
       have sT2:(sb T2).size<=1018:=by rw[ai,hT2,length_append];have:=sA3;rw[ai]at this;omega
       have k4:(⟨#[47]⟩:ByteArray)++sb (c::r)=sb A3:=by rw[hA3];exact dm [47] (c::r)
       have k5:sb T1++sb A3=sb T2:=by rw[hT2];exact dm T1 A3
       have k6:sb T2++(⟨#[10]⟩:ByteArray)=sb (T2++[10]):=dm T2 [10];have hB6:=NQ.set 1 (.string (sb T2));have q3:=hB6.cell 1 rfl;have r3:=hB6.free 1;subst hcr;clear hct hA3 hT2 hL4 hM4 hB4 NQ hB6 aBd hvb;go_wp2_with fail;go_end0;exact⟨rfl,aCi.o _ HTX.o _ (((HB4.o.set 1 _).set 1 _).set 1 _) (HL6.o _ _ _) (HM6.o _ _ _)⟩
end Go.Proofs.YtoebidlghdidoaaGreatDoor
