import Derived.Test.YtoebidlghdidoaaGreatDoorBJ
set_option maxHeartbeats 8000000
set_option maxRecDepth 100000
namespace Go.Proofs.YtoebidlghdidoaaGreatDoor
open Tx Th M2 Tryz List
open Go.RowKit
attribute [local go_sem ↓] Go.wp_at_zero Go.wp_at_succ
variable {w w':World} {v:Value}
theorem aJv{B:Nat}(hm:Mod No w w')(h2:B<=w.heap.size):Below B w w':=⟨hm.os,hm.tape,hm.output,hm.size,fun k hk=>hm.block k (by omega) (fun x=>x)⟩
theorem aJE{s t:List UInt8}(h:(sb s).toList=(sb t).toList):s=t:=by
 rw[toList_data,toList_data]at h;exact h
theorem aKa(w:World)(B b:Nat)(vl T:Value)(M M':Nat)(ps ps':List (Th.LR × Value))(x y:List iL)(hb:aG w b [vl,T,Jx M 0,Jx M' 0] 31)(hM:Made w M ps x)(hM':Made w M' ps' y){l l':List Th.LR}(hps:ps.map Prod.fst=l)(aJF:ps'.map Prod.fst=l')(hS:aJ7 l x)(hS':aJ7 l' y)(hl:1<=l.length∧l.length<=4)(hl':1<=l'.length∧l'.length<=4)(hok:∀a∈l,a.Ok)(hok':∀a∈l',a.Ok)(htab:Lib.TabBelow prog B w uI .u64 Lib.pow10Tab)(hB:B<=w.heap.size):J1 9 #[Jx b 0] w fun e w'=>e=.returned (.bool true)∧Mod No w w':=by
 obtain⟨m,R,c,h1,h2,h3⟩:=hM;obtain⟨m',R',c',h1',h2',h3'⟩:=hM';obtain⟨v,hv,fx⟩:=hS.fx;obtain⟨v',hv',fy⟩:=hS'.fx;have el:ps.length=l.length:=by rw[<-hps,length_map]
 have el':ps'.length=l'.length:=by rw[<-aJF,length_map]
 have D1:=fun wx (hm:Mod No w wx)=>aJu wx m m' x y v v' fx fy hv hv' (h2.no hm) (h2'.no hm)
 have D2:=fun wx (hm:Mod No w wx)=>aJu wx m' m y x v' v fy fx hv' hv (h2'.no hm) (h2.no hm)
 obtain⟨-,-,-,hd1,-⟩:=Calls.fact (D1 w (Mod.refl _ _));obtain⟨-,-,-,hd2,-⟩:=Calls.fact (D2 w (Mod.refl _ _));have HD1:Hd (∀wx,Mod No w wx->J1 27 #[Jx m 0,Jx m' 0] wx fun e w'=>e=.returned (.tuple #[.string (sb (dfM x y).1),.bool (dfM x y).2])∧Mod No wx w'):=fun wx hm=>(D1 wx hm).mono fun _ _ h=>⟨h.1,h.2.2⟩
 have HD2:Hd (∀wx,Mod No w wx->J1 27 #[Jx m' 0,Jx m 0] wx fun e w'=>e=.returned (.tuple #[.string (sb (dfM y x).1),.bool (dfM y x).2])∧Mod No wx w'):=fun wx hm=>(D2 wx hm).mono fun _ _ h=>⟨h.1,h.2.2⟩
 clear D1 D2;have HT1:Hd (∀wx,Mod No w wx->J1 14 #[Jx m 0] wx fun e w'=>e=.returned (.string (sb (bV x)))∧Mod No wx w'):=fun wx hm=>aBa B wx (htab.on (aJv hm hB)) hS.lm (h2.no hm)
 have HT2:Hd (∀wx,Mod No w wx->J1 14 #[Jx m' 0] wx fun e w'=>e=.returned (.string (sb (bV y)))∧Mod No wx w'):=fun wx hm=>aBa B wx (htab.on (aJv hm hB)) hS'.lm (h2'.no hm)
 have HW1:Hd (∀(z:List UInt8),Th.Wb z->z.length<=100000->∀wx,Mod No w wx->J1 26 #[Jn R ps.length c,.string (sb z)] wx fun e w'=>e=.returned (.string (sb (kC x 0 (ak z))))∧Mod No wx w'):=fun z hz hzl wx hm=>by
  have h:=Ib wx R c ps z (h3.mod hm) (fun p hp=>hok p.1 (by rw[<-hps];exact mem_map_of_mem hp)) (by omega) (by omega) hz hzl;rw[hps,hS.law _ (qX z)]at h;exact h
 have HW2:Hd (∀(z:List UInt8),Th.Wb z->z.length<=100000->∀wx,Mod No w wx->J1 26 #[Jn R' ps'.length c',.string (sb z)] wx fun e w'=>e=.returned (.string (sb (kC y 0 (ak z))))∧Mod No wx w'):=fun z hz hzl wx hm=>by
  have h:=Ib wx R' c' ps' z (h3'.mod hm) (fun p hp=>hok' p.1 (by rw[<-aJF];exact mem_map_of_mem hp)) (by omega) (by omega) hz hzl;rw[aJF,hS'.law _ (qX z)]at h;exact h
 have HB:Hd (∀wx,Mod No w wx->wx.cell? (J b 2)=some (Jx M 0)∧wx.cell? (J b 3)=some (Jx M' 0)∧wx.cell? (J M 0)=some (Jx m 0)∧wx.cell? (J M' 0)=some (Jx m' 0)∧wx.cell? (J M 1)=some (Jn R ps.length c)∧wx.cell? (J M' 1)=some (Jn R' ps'.length c')):=fun wx hm=>by
  have g:=hb.mod hm (fun x=>x);have g1:=h1.mod hm (fun x=>x);have g2:=h1'.mod hm (fun x=>x);exact⟨g.cell 2 rfl,g.cell 3 rfl,g1.cell 0 rfl,g2.cell 0 rfl,g1.cell 1 rfl,g2.cell 1 rfl⟩
 have hxy:(sb (bV x)).toList=(sb (bV y)).toList->x=y:=fun h=>by
  have a:=hS.lm.read;have e:=aJE h;rw[e,hS'.lm.read]at a;exact(dY a).symm
 generalize ps.length=q at HW1 HB;generalize ps'.length=q' at HW2 HB;clear hb h1 h2 h3 h1' h2' h3' hps aJF hS hS' hl hl' hok hok' htab hB el el' fx fy hv hv';have k3:=(HB.o w (Mod.refl _ _)).2.1;obtain⟨r1,hr1⟩:=eX (dfM x y);obtain⟨r2,hr2⟩:=eX (dfM y x);rw[<-hr1]at HD1 hd1;rw[<-hr2]at HD2 hd2;obtain⟨t1,o1⟩:=r1;obtain⟨t2,o2⟩:=r2;obtain⟨T1,hT1⟩:=eX (sb t1);obtain⟨T2,hT2⟩:=eX (sb t2);obtain⟨TX,hTX⟩:=eX (sb (bV x));obtain⟨TY,hTY⟩:=eX (sb (bV y))
 dsimp only at HD1 HD2
 rw[<-hT1]at HD1;rw[<-hT2]at HD2;rw[<-hTX]at HT1 hxy;rw[<-hTY]at HT2 hxy;have HE:=qH (And.intro hd1 (And.intro hd2 (And.intro hxy (And.intro hT1 (And.intro hT2 (And.intro hTX hTY))))));clear hr1 hr2 hT1 hT2 hTX hTY hd1 hd2 hxy;go_enter func9,ntmps9;go_wp2_with fail;have hne:Nonempty (After w):=⟨⟨w,Mod.refl _ _⟩⟩;have b2:=fun(x:After w)=>(HB.o _ ((Mod.refl No w).no x.property)).1
 have b3:=fun(x:After w)=>(HB.o _ ((Mod.refl No w).no x.property)).2.1
 have m0:=fun(x:After w)=>(HB.o _ ((Mod.refl No w).no x.property)).2.2.1
 have n0:=fun(x:After w)=>(HB.o _ ((Mod.refl No w).no x.property)).2.2.2.1
 refine aIw (by kernel_rfl) (by kernel_rfl) ?_;repeat (quiet_step (exact Calls.calm (HD1.o _ ((Mod.refl No w).no (Subtype.property _)))))
 refine wpQuiet_nil ?_;rintro w1 ⟨z9,hz9⟩;have m9:Mod No w w1:=by rw[hz9];exact z9.property
 clear z9 hz9;have DN:=qH ((Mod.refl No w).no m9);clear hne m9 b2 b3 m0 n0;go_wp2_with fail;have hne:Nonempty (After w1):=⟨⟨w1,Mod.refl _ _⟩⟩;have b2:=fun(x:After w1)=>(HB.o _ (DN.o.no x.property)).1
 have b3:=fun(x:After w1)=>(HB.o _ (DN.o.no x.property)).2.1
 have m0:=fun(x:After w1)=>(HB.o _ (DN.o.no x.property)).2.2.1
 have n0:=fun(x:After w1)=>(HB.o _ (DN.o.no x.property)).2.2.2.1
 refine aIw (by kernel_rfl) (by kernel_rfl) ?_;repeat (quiet_step (exact Calls.calm (HD2.o _ (DN.o.no (Subtype.property _)))))
 refine wpQuiet_nil ?_;rintro w2 ⟨z9,hz9⟩;have m9:Mod No w1 w2:=by rw[hz9];exact z9.property
 clear z9 hz9;have lF:=qH (DN.o.no m9);clear hne m9 b2 b3 m0 n0;clear DN;go_wp2_with fail;have hne:Nonempty (After w2):=⟨⟨w2,Mod.refl _ _⟩⟩;have b2:=fun(x:After w2)=>(HB.o _ (lF.o.no x.property)).1
 have b3:=fun(x:After w2)=>(HB.o _ (lF.o.no x.property)).2.1
 have m0:=fun(x:After w2)=>(HB.o _ (lF.o.no x.property)).2.2.1
 have n0:=fun(x:After w2)=>(HB.o _ (lF.o.no x.property)).2.2.2.1
 refine aIw (by kernel_rfl) (by kernel_rfl) ?_;repeat (quiet_step (first | (go_at_call_of 14 (Jx m 0);exact Calls.calm (HT1.o _ (lF.o.no (Subtype.property _)))) | exact Calls.calm (HT2.o _ (lF.o.no (Subtype.property _)))))
 refine wpQuiet_nil ?_;rintro w3 ⟨z9,hz9⟩;have m9:Mod No w2 w3:=by rw[hz9];exact z9.property
 clear z9 hz9;have Aa:=qH (lF.o.no m9);clear hne m9 b2 b3 m0 n0;clear lF HT1 HT2 HD1 HD2;obtain⟨hd1,hd2,hxy,hT1,hT2,hTX,hTY⟩:=HE.o;by_cases hc:x=y
 ·subst hc;have e1:∀{t o},aJB x x (t,o)->t=[]∧o=false:=fun {t o} h=>by
   unfold aJB at h;split at h
   ·exact absurd rfl h.2.2
   ·rename_i g;exact⟨h.1,by simpa using g⟩
  obtain⟨rfl,rfl⟩:=e1 hd1;obtain⟨rfl,rfl⟩:=e1 hd2;obtain rfl:TX=TY:=by rw[hTX,hTY]
  obtain rfl:T1=⟨#[]⟩:=hT1;obtain rfl:T2=⟨#[]⟩:=hT2;have hcmp:(TX.toList==TX.toList)=true:=beq_self_eq_true _;clear hd1 hd2 e1 hxy hTX hTY HE;go_wp2_with fail;refine(aJW _).mono ?_;rintro e w4 ⟨tv,zs,rfl,hzr,hzo,hz1,aLt,m4⟩;obtain⟨g,cap,rfl,-,-⟩:=hzr.form (by omega);have HM4:=qH (Aa.o.no m4);have HZ:=qH (And.intro hzr hzo);obtain⟨k,hk⟩:=eX (zs.length);have HK:=qH hk;rw[<-hk]at hz1 aLt ⊢;clear Aa m4 hzr hzo hk hcmp k3;go_wp2_with fail;go_loopg [119] 40 (fun gh u wr=>∃j:Nat,u=I j∧j<=k∧gh=40-j∧Mod No w4 wr)
  case atStart=>exact⟨0,rfl,by omega,rfl,Mod.refl _ _⟩
  case round=>
   obtain⟨j,rfl,hjk,hgj,hm⟩:=hrel;by_cases hj:j<k
   ·have hji:(j:Int)<k:=by omega
    obtain⟨z,hz⟩:∃z,zs[j]?=some z:=⟨zs[j]'(by have:=HK.o;omega),bG _⟩;obtain⟨hzw,hzl⟩:=HZ.o.2 z (iI hz);have HA:=qH (HW1.o z hzw (by omega));have HA':=qH (HW2.o z hzw (by omega));obtain⟨ZB,hZB⟩:=eX (sb z);have cz:wr.cell? (J g j)=some (.string ZB):=by
     rw[hZB];refine NH.cell (n:=k) (cap:=cap) ?_ hz;rw[HK.o];exact HZ.o.1.no hm
    rw[<-hZB]at HA HA';generalize sb (kC x 0 (ak z))=A at HA HA';have hcmp:(A.toList==A.toList)=true:=beq_self_eq_true _;have HMr:=qH (HM4.o.no hm);have HMm:=qH hm;clear hzw hzl hz hZB hm;go_wp2_with fail;have hne:Nonempty (After wr):=⟨⟨wr,Mod.refl _ _⟩⟩;have b2:=fun(x:After wr)=>(HB.o _ (HMr.o.no x.property)).1
    have b3:=fun(x:After wr)=>(HB.o _ (HMr.o.no x.property)).2.1
    have m1:=fun(x:After wr)=>(HB.o _ (HMr.o.no x.property)).2.2.2.2.1
    have n1:=fun(x:After wr)=>(HB.o _ (HMr.o.no x.property)).2.2.2.2.2
    refine aIw (by kernel_rfl) (by kernel_rfl) ?_;repeat (quiet_step (first | (go_at_call_of 26 (Jn R q c);exact Calls.calm (HA.o _ (HMr.o.no (Subtype.property _)))) | exact Calls.calm (HA'.o _ (HMr.o.no (Subtype.property _)))))
    refine wpQuiet_nil ?_;rintro w5 ⟨z9,hz9⟩;have m9:Mod No wr w5:=by rw[hz9];exact z9.property
    clear z9 hz9;have HM5:=qH (HMm.o.no m9);clear hne m9 b2 b3 m1 n1;clear HA HA' cz;go_wp2;go_roundg (40-(j+1))
    case measure=>omega
    case rel=>exact⟨j+1,by go_num,by omega,rfl,HM5.o⟩
   ·have hnj:¬(j:Int)<k:=by omega
    have HM5:=qH (HM4.o.no hm);clear hm;go_wp2;go_ret;exact⟨rfl,HM5.o⟩
 ·have e1:o1=true∧Th.Parts x y t1:=by
   unfold aJB at hd1;split at hd1
   ·exact⟨by assumption,hd1⟩
   ·exact absurd hd1.2 hc
  have e2:o2=true∧Th.Parts y x t2:=by
   unfold aJB at hd2;split at hd2
   ·exact⟨by assumption,hd2⟩
   ·exact absurd hd2.2.symm hc
  obtain rfl:=e1.1;obtain rfl:=e2.1;have hcmp:(TX.toList==TY.toList)=false:=by
   rw[beq_eq_false_iff_ne];exact fun h=>hc (hxy h)
  have HA1:=qH (HW1.o _ e1.2.1 (by have:=e1.2.2.1;omega));have HA2:=qH (HW2.o _ e1.2.1 (by have:=e1.2.2.1;omega));have HA3:=qH (HW1.o _ e2.2.1 (by have:=e2.2.2.1;omega));have HA4:=qH (HW2.o _ e2.2.1 (by have:=e2.2.2.1;omega));have hq1:((sb (kC x 0 (ak t1))).toList==(sb (kC y 0 (ak t1))).toList)=false:=by
   rw[beq_eq_false_iff_ne];exact fun h=>e1.2.2.2 (aJE h)
  have hq2:((sb (kC x 0 (ak t2))).toList==(sb (kC y 0 (ak t2))).toList)=false:=by
   rw[beq_eq_false_iff_ne];exact fun h=>e2.2.2.2 (aJE h).symm
  generalize sb (kC x 0 (ak t1))=A1 at HA1 hq1;generalize sb (kC y 0 (ak t1))=A2 at HA2 hq1;generalize sb (kC x 0 (ak t2))=A3 at HA3 hq2;generalize sb (kC y 0 (ak t2))=A4 at HA4 hq2;rw[<-hT1]at HA1 HA2;rw[<-hT2]at HA3 HA4;clear hd1 hd2 e1 e2 hxy hc HW1 HW2 hT1 hT2 hTX hTY HE;go_wp2_with fail;have hne:Nonempty (After w3):=⟨⟨w3,Mod.refl _ _⟩⟩;have b2:=fun(x:After w3)=>(HB.o _ (Aa.o.no x.property)).1
  have b3:=fun(x:After w3)=>(HB.o _ (Aa.o.no x.property)).2.1
  have m1:=fun(x:After w3)=>(HB.o _ (Aa.o.no x.property)).2.2.2.2.1
  have n1:=fun(x:After w3)=>(HB.o _ (Aa.o.no x.property)).2.2.2.2.2
  refine aIw (by kernel_rfl) (by kernel_rfl) ?_;repeat (quiet_step (first | (go_at_call_of 26 (Jn R q c);go_at_call_of 26 (Value.string T1);exact Calls.calm (HA1.o _ (Aa.o.no (Subtype.property _)))) | (go_at_call_of 26 (Jn R' q' c');go_at_call_of 26 (Value.string T1);exact Calls.calm (HA2.o _ (Aa.o.no (Subtype.property _)))) | (go_at_call_of 26 (Jn R q c);go_at_call_of 26 (Value.string T2);exact Calls.calm (HA3.o _ (Aa.o.no (Subtype.property _)))) | (go_at_call_of 26 (Jn R' q' c');go_at_call_of 26 (Value.string T2);exact Calls.calm (HA4.o _ (Aa.o.no (Subtype.property _))))))
  refine wpQuiet_nil ?_;rintro w4 ⟨z9,hz9⟩;have m9:Mod No w3 w4:=by rw[hz9];exact z9.property
  clear z9 hz9;have HM4:=qH (Aa.o.no m9);clear hne m9 b2 b3 m1 n1;clear Aa HA1 HA2 HA3 HA4;go_wp2;go_ret;exact⟨rfl,HM4.o⟩
theorem SC.no{os:List xY}(h:SC w v os)(hm:Mod No w w'):SC w' v os:=⟨h.sl,fun a cap e i o ho=>by
 obtain⟨B,O,h0,h1,h2,h3,h4,h5⟩:=h.cell a cap e i o ho
 exact⟨B,O,h0,jD hm h1,jD hm h2,jD hm h3,jD hm h4,jD hm h5⟩⟩
theorem nZ.only{b:Nat}{cs:List Value}{ps:List (Th.LR × Value)}(h:nZ w v ps)(hb:aG w b cs 31)(hm:Mod (fun k=>k=b) w w'):nZ w' v ps:=⟨h.row.mod hm (fun g hg e=>h.row.blk hb (by decide) (by rw[hg,e])),fun p hp=>(h.Y5 p hp).mod hm (fun g hg e=>(h.Y5 p hp).blk hb (by decide) (by rw[hg,e]))⟩
theorem aJG(w:World)(v v':Value)(os os':List xY)(hA:SC w v os)(hA':SC w v' os')(hos:os.length<=281474976710656)(aKw:os'.length<=281474976710656)(hwf:∀o∈os,aDB o)(hwf':∀o∈os',aDB o)(htab:Lib.TabIs prog w uI .u64 Lib.pow10Tab):J1 5 #[v,v'] w fun e w'=>e=.returned (.bool true)∧Mod No w w':=by
 have HO:=qH (aDD YP w v os hA hos hwf);have HO2:=qH fun wx (hm:Mod No w wx)=>aDD YP wx v' os' (hA'.no hm) aKw hwf'
 have HT:=qH (Lib.tabBelow_of_tabIs htab);obtain⟨a,cap,rfl⟩:=hA.sl;obtain⟨a',cap',rfl⟩:=hA'.sl;clear hA hA' hos aKw hwf hwf' htab;go_enter func5,ntmps5;go_wp2_with fail;refine HO.o.mono ?_;rintro e w1 ⟨m1,h1⟩;have DN:=qH m1;clear HO;rcases h1 with rfl | ⟨b,vl,ps,hbs,rfl,hB,hL,hps,hown⟩
 ·clear m1;go_wp2_with fail;refine(HO2.o w1 DN.o).mono ?_;rintro e w2 ⟨m2,h2⟩;have lF:=qH (DN.o.no m2);clear m2 HO2 DN;rcases h2 with rfl | ⟨b,vl,ps,hbs,rfl,hB,hL,hps,hown⟩
  ·go_wp2_with fail;go_ret;exact⟨rfl,lF.o⟩
  ·clear hB hL hps hown hbs;go_wp2_with fail;go_ret;exact⟨rfl,lF.o⟩
 ·have HB:=qH (And.intro hB (And.intro hL (And.intro hps hbs)));clear m1 hB hL hps hown hbs;go_wp2_with fail;refine(HO2.o w1 DN.o).mono ?_;rintro e w2 ⟨m2,h2⟩;have lF:=qH (DN.o.no m2);clear HO2;rcases h2 with rfl | ⟨b',vl',ps',hbs,rfl,hB',hL',aJF,hown⟩
  ·clear m2 HB DN;go_wp2_with fail;go_ret;exact⟨rfl,lF.o⟩
  ·have hbb:=Nat.lt_of_lt_of_le HB.o.1.lt hbs;have aLu:=Nat.le_trans DN.o.size hbs;have HK:=qH (aJc w2 w.heap.size b vl ps (kM os) (HB.o.1.mod m2 (fun x=>x)) (HB.o.2.1.mod m2) HB.o.2.2.1 (Vg os) (Og os) (HT.o.on lF.o.below) HB.o.2.2.2 lF.o.size);have HB':=qH (And.intro hB' (And.intro hL' aJF));have HBb:=qH (HB.o.1.mod m2 (fun x=>x));have hwb:=HB.o.2.2.2;have HP:=qH HB.o.2.2.1;clear m2 hB' hL' aJF hown HB DN hbs;go_wp2_with fail;refine HK.o.mono ?_;rintro e w3 ⟨rfl,m3,p,hp,aKx⟩;have HB3:=qH (HB'.o.1.mod m3 (fun e=>by omega));have HL3:=qH (HB'.o.2.1.only HBb.o m3);have Aa:=qH (lF.o.trans' m3 (fun k hk e=>by omega));have HK3:=qH (aJc w3 w.heap.size b' vl' ps' (kM os') HB3.o HL3.o HB'.o.2.2 (Vg os') (Og os') (HT.o.on Aa.o.below) aLu Aa.o.size);have HP':=qH HB'.o.2.2;have HN:=qH aKx;have HBp:=qH hp;clear m3 hp aKx HK HBb lF HB' HL3;go_wp2_with fail;refine HK3.o.mono ?_;rintro e w4 ⟨rfl,m4,p',hp',aKk⟩;have HM4:=qH (Aa.o.trans' m4 (fun k hk e=>by omega));have hbp:=HBp.o.mod m4 (fun e=>by omega);have c1:=hbp.cell 2 rfl;have c2:=hp'.cell 2 rfl;rcases HN.o with rfl | ⟨M,aC,rfl,hM,hS,hl1,hl4⟩
   ·clear HK3 HN HB3 Aa m4 hp' hbp aKk;go_wp2_with fail;go_ret;exact⟨rfl,HM4.o⟩
   ·rcases aKk with rfl | ⟨M',aLv,rfl,hM',hS',aLw,TN⟩
    ·clear HK3 HN HB3 Aa m4 hp' hbp hM hS;go_wp2_with fail;go_ret;exact⟨rfl,HM4.o⟩
    ·have hs:Mod (fun k=>k=b') w4 (w4.setCell (J b' 3) (Jx M 0)):=Mod.setCell (S:=fun k=>k=b') (Mod.refl _ _) (a:=J b' 3) (fun _=>rfl) _;have HM5:=qH (HM4.o.trans' hs (fun k hk e=>by omega));have HD:=qH (aKa (w4.setCell (J b' 3) (Jx M 0)) w.heap.size b' _ _ M' M ps' ps aLv aC (hp'.set 3 _) (hM'.only hp' hs) ((hM.only HB3.o m4).only hp' hs) HP'.o HP.o hS' hS ⟨aLw,TN⟩ ⟨hl1,hl4⟩ (Vg os') (Vg os) (HT.o.on HM5.o.below) HM5.o.size);have f3:=hp'.free 3;have c3:=hp'.cell 3 rfl;clear HK3 HN HB3 Aa m4 hp' hbp hM hS hM' hS' hs;go_wp2_with fail;refine HD.o.mono ?_;rintro e w6 ⟨rfl,m6⟩;have HM6:=qH (HM5.o.no m6);clear HD m6;go_wp2_with fail;go_ret;exact⟨rfl,HM6.o⟩
end Go.Proofs.YtoebidlghdidoaaGreatDoor
