import Derived.Test.YtoebidlghdidoaaGreatDoorAS
import Derived.Great.BuildSlice
set_option maxHeartbeats 8000000
set_option maxRecDepth 100000
namespace Go.Proofs.YtoebidlghdidoaaGreatDoor
open Th M3 M2 Tryz List
open Go.RowKit
attribute [local go_sem ↓] Go.wp_at_zero Go.wp_at_succ
variable {w w' wr:World} {base size n k R cap G:Nat} {e:TypeId} {v von:Value} {xs vs:List Value} {ps:List (Th.LR × Value)} {z:List UInt8} {p:Th.LR × Value}
def OnE:Enc Value:=⟨118,1,fun v=>[v],fun _=>rfl⟩
theorem aAt(vs:List Value):vs.flatMap OnE.f=vs:=by
 induction vs with
 | nil=>rfl
 | cons v vs ih=>rw[flatMap_cons,ih];rfl
theorem aAu(h:w.ownsRow base e size v n xs):w.ownsRow 0 e size v n xs:=by
 refine⟨h.1,?_⟩;rcases h.2 with h2 | ⟨g,cap,cur,rfl,hg,r⟩
 ·exact .inl h2
 ·exact .inr ⟨g,cap,cur,rfl,Nat.zero_le _,r⟩
theorem aDV(h:w.ownsRow base e size v n xs)(hm:Mod No w w'):w'.ownsRow base e size v n xs:=by
 refine⟨h.1,?_⟩;rcases h.2 with h2 | ⟨g,cap,cur,rfl,hg,hh,r⟩
 ·exact .inl h2
 ·exact .inr ⟨g,cap,cur,rfl,hg,(hm.block g (Array.getElem?_eq_some_iff.1 hh).1 (fun x=>x)).trans hh,r⟩
structure Qo(w:World)(ps:List (Th.LR × Value))(z:List UInt8)(k:Nat)(von:Value)(vs:List Value)(wr:World):Prop where
 md:Mod No w wr
 len:vs.length=k
 own:wr.ownsRow w.heap.size 118 1 von k vs
 row:∀(j:Nat) (v:Value) (p:Th.LR × Value),vs[j]?=some v->ps[j]?=some p->(∃g,v=Jn g (z.length+1) (z.length+1))∧Row lD wr v (pK p.1.c z)
theorem Qo.onE(h:Qo w ps z k von vs wr):Row OnE wr von vs:=by
 have:=aAu h.own;show wr.ownsRow 0 118 1 von vs.length (vs.flatMap OnE.f);rw[aAt,h.len];exact this
theorem aJ1:(prog.info? 118).map (fun i=>(i.zero,i.size,i.bytes))=some (some (.slice none 0 0),1,24):=by kernel_rfl
theorem aDW(h:nZ w (Jn R n cap) ps)(hk:ps[k]?=some p):Zw w R (k*6+2) p.1.c p.2:=by
 have c:=fun j u hu=>h.row.cell k j (x:=p) (u:=u) hk hu
 exact⟨c 2 _ rfl,c 3 _ rfl,c 4 _ rfl,c 5 _ rfl,h.Y5 p (iI hk)⟩
def aAv(ps:List (Th.LR × Value))(bi:Int)(d:Nat × Th.By):Prop:=(bi=-1∧d=(0,[]))∨∃(b:Nat) (p:Th.LR × Value),bi=(b:Int)∧ps[b]?=some p∧d=(p.1.fr.length,p.1.tt)
structure Look(ps:List (Th.LR × Value))(z:List UInt8)(R G:Nat)(wx:World):Prop where
 at':∀(k:Nat) (p:Th.LR × Value),ps[k]?=some p->wx.cell? (J R (k*6))=some (.string (sb p.1.fr))∧wx.cell? (J R (k*6+1))=some (.string (sb p.1.tt))∧∃g,wx.cell? (J G k)=some (Jn g (z.length+1) (z.length+1))∧∀m,m<=z.length->wx.cell? (J g m)=some (.bool (pI p.1.c z m))
theorem Look.no(h:Look ps z R G w)(hm:Mod No w w'):Look ps z R G w':=⟨fun k p hk=>by
 obtain⟨h1,h2,g,h3,h4⟩:=h.at' k p hk
 exact⟨jD hm h1,jD hm h2,g,jD hm h3,fun m hm'=>jD hm (h4 m hm')⟩⟩
theorem Look.drewN(h:Look ps z R G w)(n:Nat):Look ps z R G (w.drewN n):=h.no ((Mod.refl No w).drewN n)
theorem aAw{q:Nat}{cc:Nat}(h:Qo w ps z q von vs wr)(hq:q=ps.length)(hL:nZ w (Jn R q cap) ps)(hv:von=Jn G q cc):Look ps z R G wr:=⟨fun k p hk=>by
 have hL':=hL.mod h.md
 have c:=fun j u hu=>hL'.row.cell k j (x:=p) (u:=u) hk hu
 have hkl:=(bU hk).1
 have hvk:vs[k]?=some (vs[k]'(by rw[h.len];omega)):=bG _
 obtain⟨⟨g,hg⟩,hrow⟩:=h.row k _ p hvk hk
 have hon:=h.onE
 rw[hv]at hon
 have e:=hon.cell k 0 hvk (u:=vs[k]'(by rw[h.len];omega)) rfl
 rw[show k*OnE.c+0=k by show k*1+0=k;omega,hg]at e
 rw[hg]at hrow
 exact⟨c 0 _ rfl,c 1 _ rfl,g,e,fun m hm=>GH hrow (yN p.1.c z hm)⟩⟩
theorem TU(h:ps[k]?=some p)(zz:List Nat)(d:Nat × Th.By):jV ((ps.map Prod.fst).drop k) zz d=jV ((ps.map Prod.fst).drop (k+1)) zz (if ZU p.1 zz&&decide (d.1<p.1.fr.length) then (p.1.fr.length,p.1.tt) else d):=by
 have h2:(ps.map Prod.fst)[k]?=some p.1:=by rw[getElem?_map,h];rfl
 obtain⟨h3,h4⟩:=bU h2;rw[kJ h3,h4,jV]
theorem Vy:∀(u z:List Nat),qh u z=true->u.length<=z.length
 | [],_,_=>by simp
 | _::_,[],h=>by simp[qh]at h
 | a::u,b::z,h=>by
  rw[qh,Bool.and_eq_true]at h;have:=Vy u z h.2;simp;exact this
theorem QF(z:List Nat):∀(l:List Th.LR) (d:Nat × Th.By),d.1<=z.length->(jV l z d).1<=z.length
 | [],d,h=>h
 | a::l,d,h=>by
  rw[jV];refine QF z l _ ?_;split
  ·rename_i hc;rw[Bool.and_eq_true]at hc;have h2:=hc.1;unfold ZU at h2;rw[Bool.and_eq_true]at h2;have:=Vy _ _ h2.1;rw[mP]at this;exact this
  ·exact h
theorem aDX:(prog.info? 5).map (fun i=>(i.zero,i.size,i.bytes))=some (some (.int .u8 0),1,1):=by kernel_rfl
theorem TV(l:List UInt8)(c:UInt8):Lib.byteCells (l++[c])=Lib.byteCells l++[.int .u8 c.toNat]:=by simp[Lib.byteCells]
theorem Ib(w:World)(R cap:Nat)(ps:List (Th.LR × Value))(z:List UInt8)(hL:nZ w (Jn R ps.length cap) ps)(hok:∀p∈ps,p.1.Ok)(hps:ps.length<=4)(hp1:1<=ps.length)(hw:Th.Wb z)(hz:z.length<=100000):J1 26 #[Jn R ps.length cap,.string (sb z)] w fun e w'=>e=.returned (.string (sb (wV (ps.map Prod.fst) 0 (ak z))))∧Mod No w w':=by
 obtain⟨q,hq⟩:=eX ps.length;rw[<-hq]at hL hps hp1 ⊢;have HQ:=qH hq;have HL:=qH hL;have J7:=qH hok;have HWB:=qH hw;have sz:=ai z;have Fj:Hd (∀k,k<q->∃p,ps[k]?=some p):=fun k hk=>⟨ps[k]'(by omega),bG _⟩
 obtain⟨E,hE⟩:=eX (wV (ps.map Prod.fst) 0 (ak z));have HE:=qH hE;rw[<-hE];clear hq hL hok hw hE;go_enter func26,ntmps26;go_wp2_with fail;go_loopg [6,15] q (fun g s6 s15 wr=>∃(k:Nat) (vs:List Value),k<=q∧g=q-k∧s15=I k∧Qo w ps z k s6 vs wr)
 case atStart=>exact⟨0,[],by omega,by omega,rfl,Mod.refl _ _,rfl,World.ownsRow_nil _ _ _ _,fun j v p hj=>by simp at hj⟩
 case round=>
  obtain⟨k,vs,hk,hg,rfl,hI⟩:=hrel;by_cases hlt:k<q
  ·obtain⟨p,hp⟩:=Fj.o k hlt;have hki:(k:Int)<q:=by omega
   have hk0:(0:Int)<=(k:Int):=by omega
   have hev:=GK wr R (k*6+2) p.1.c p.2 z (aDW (HL.o.mod hI.md) hp) (J7.o p (iI hp)).c (by omega);have HI:Hd _:=hI;have HP:=qH hp;clear hI hp;go_wp2_with fail;refine hev.mono ?_;rintro e w2 ⟨rfl,hr2,m2⟩;clear hev;have hown:=aDV HI.o.own m2;have hM2:=HI.o.md.no m2;have hsz2:=hM2.size;have HK:=qH HI.o.len;have HR2:=qH hr2;have HRS:Hd (∀(j:Nat) (v:Value) (p:Th.LR × Value),vs[j]?=some v->ps[j]?=some p->(∃g,v=Jn g (z.length+1) (z.length+1))∧Row lD w2 v (pK p.1.c z)):=fun j v p h1 h2=>⟨(HI.o.row j v p h1 h2).1,(HI.o.row j v p h1 h2).2.no m2⟩
   have lF:=qH hM2;have HO2:=qH (HI.o.onE.no m2);obtain⟨i0,af,hz0,hz1,hz2⟩:=info_parts aJ1;clear hr2 m2 hM2;go_wp2_with (at_builtin;refine wpList_append_lies _ rfl _ _ 117 rfl w.heap.size 118 i0 _ 1 24 underlying117 af hz0 hz1 hz2 rfl (by omega) u6 k vs rfl (hown.alloc _) (J w2.heap.size 0) 1 1 [Jn wr.heap.size (z.length+1) (z.length+1)] rfl rfl (World.news_of_block (cs:=#[Jn wr.heap.size (z.length+1) (z.length+1)]) (t:=118) (fr:=(0,0)) (heap_alloc_new w2 _)) (by intro u hu;simp at hu;rw[hu];rfl) (by omega) (by unfold maxLen;omega) (by omega) (by simp;omega) (w2.heap.size+1) (by simp) ?_);intro gg cap2 w4 hown4 hgrow hat fJ;have hlo:=fun g (h:u6.ownBlock=some g)=>(hown.lt g h).1
   have hkeep:∀{v:Value} {xs:List Bool},Row lD w2 v xs->Row lD w4 v xs:=fun h=>(h.alloc _).grown hgrow (Row.far' h HO2.o (by decide))
   have HI4:Hd (Qo w ps z (k+1) (Jn gg (k+1) cap2) (vs++[Jn wr.heap.size (z.length+1) (z.length+1)]) w4):=by
    refine⟨(lF.o.alloc _).grown hgrow (fun g h h2=>absurd h2 (by have:=hlo g h;omega)),by rw[length_append,HK.o];rfl,hown4,fun j v p' hj hp'=>?_⟩;rcases iK j vs.length with hjl | hjl
    ·rw[jG hjl]at hj;exact⟨(HRS.o j v p' hj hp').1,hkeep (HRS.o j v p' hj hp').2⟩
    ·rw[mW hjl]at hj;have hj0:j-vs.length=0:=by
      have:=(bU hj).1;simp at this;omega
     rw[hj0]at hj;simp at hj;subst hj;have hjk:j=k:=by have:=HK.o;omega
     subst hjk;rw[HP.o]at hp';cases hp';exact⟨⟨_,rfl⟩,hkeep HR2.o⟩
   clear hown hown4 hgrow hat fJ af hz0 hz1 hz2 hlo HI HR2 HRS lF HO2 HP;go_wp2;go_roundg (q-(k+1))
   case measure=>omega
   case rel=>exact⟨k+1,_,by omega,rfl,by go_num,HI4.o⟩
  ·have hki:¬(k:Int)<q:=by omega
   obtain rfl:k=q:=by omega
   have hform:∃G cc,u6=Jn G k cc:=by
    have hf:=hI.onE.form (by rw[hI.len];omega);rw[hI.len]at hf;obtain⟨G,cc,h1,-,-⟩:=hf;exact⟨G,cc,h1⟩
   obtain⟨G,cc,rfl⟩:=hform;have HLK:=qH (aAw hI HQ.o HL.o rfl);have Ot:=qH hI.md;generalize wr=W1 at *;clear hI HL hki;go_wp2_with fail;go_loopg [5,9] z.length (fun g s5 s9 wr=>∃(i:Nat) (out:List UInt8),i<=z.length∧g=z.length-i∧s9=I i∧out.length<=4*i∧wr.ownsRow W1.heap.size 5 1 s5 out.length (Lib.byteCells out)∧out++wV (ps.map Prod.fst) 0 (ak (z.drop i))=E∧Mod No W1 wr)
   case atStart=>exact⟨0,[],by omega,by omega,rfl,by simp,World.ownsRow_nil _ _ _ _,by rw[HE.o];simp,Mod.refl _ _⟩
   case round=>
    obtain⟨i,out,hi,hg,rfl,hol,hown,hE2,hM⟩:=hrel;by_cases hiz:i<z.length
    ·have hii:(i:Int)<z.length:=by omega
     obtain⟨D,hD⟩:=eX (jV (ps.map Prod.fst) (ak (z.drop i)) (0,[]));have HD:=qH hD;have HOW:=qH hown;have HE2:=qH hE2;have HM:=qH hM;have HLR:=qH (HLK.o.no hM);clear hown hE2 hM hD;go_wp2_with fail;go_loopg [10,35] k (fun g s10 s35 wx=>∃(j:Nat) (bi:Int) (d:Nat × Th.By) (m:Nat),j<=k∧g=k-j∧s35=I j∧s10=I bi∧aAv ps bi d∧jV ((ps.map Prod.fst).drop j) (ak (z.drop i)) d=D∧wx=wr.drewN m)
     case atStart=>exact⟨0,-1,(0,[]),0,by omega,by omega,rfl,rfl,Or.inl ⟨rfl,rfl⟩,by rw[drop_zero];exact HD.o.symm,rfl⟩
     case round=>
      obtain⟨j,bi,d,m,hj,hg2,rfl,rfl,hbi,hbd,rfl⟩:=hrel;by_cases hjk:j<k
      ·obtain⟨p,hp⟩:=Fj.o j hjk;have hLk:=HLR.o.drewN m;obtain⟨r0,-,g,o0,o1⟩:=hLk.at' j p hp;have hpo:=J7.o p (iI hp);obtain⟨F,hF⟩:=eX p.1.fr;rw[<-hF]at r0;have HF:=qH hF;have aHM:1<=F.length:=by rw[hF];exact hpo.side.f1
       have aHN:F.length<=4:=by rw[hF];exact hpo.side.f4
       have sF:=ai F;have hji:(j:Int)<k:=by omega
       have hj0:(0:Int)<=(j:Int):=by omega
       obtain⟨V,hV⟩:=eX (aDy p.1 z i&&decide (d.1<F.length));have HV:Hd (V=(Th.stands F z i&&pI p.1.c z (i+F.length)&&decide (d.1<F.length))):=by
        show V=_;rw[hV,hF];rfl
       have rM:Hd (∀d',d'=(if V then (F.length,p.1.tt) else d)->jV ((ps.map Prod.fst).drop (j+1)) (ak (z.drop i)) d'=D):=fun d' hd'=>by
        rw[<-hbd,TU hp,hd',hV,hF,aDz hpo HWB.o]
       have HP:=qH hp;have HBI:=qH hbi;have aHO:-1<=bi∧bi<4:=by
        rcases hbi with ⟨h,-⟩ | ⟨b,pb,h,h2,-⟩
        ·omega
        ·have:=(bU h2).1;have:=HQ.o;omega
       have aDY:=qH hLk;generalize hwx:wr.drewN m=wx at *;have HWX:=qH hwx.symm;clear hF hV hbd hp hpo hbi hLk hwx;go_upto_region 16 with fail;go_cut [89] from 46 to 89 (fun s89 wc=>s89=.bool V∧∃m,wc=wr.drewN m)
       case first=>
        by_cases hfit:i+F.length<=z.length
        ·have hfi:(i:Int)+(F.length:Int)<=z.length:=by omega
         have hex:=aEZ z i F.length;have o1':=o1 (i+F.length) hfit;have aHP:(0:Int)<=(i:Int)+(F.length:Int):=by omega
         have aHQ:(i:Int)+(F.length:Int)<z.length+1:=by omega
         obtain⟨S,hS⟩:=eX ((z.drop i).take F.length);rw[<-hS]at hex;have hst:Th.stands F z i=decide (S=F):=by
          unfold Th.stands;rw[<-hS];have:decide (F.length<=z.length-i)=true:=decide_eq_true (by omega);rw[this,Bool.true_and]
         generalize hfo:pI p.1.c z (i+F.length)=fo at o1';rw[hst,hfo]at HV;clear hS hst hfo o1;by_cases heq:S=F
         ·have heb:(S==F)=true:=by simpa using heq
          cases fo with
          | false=>
           have y5:Hd (V=false):=qH <| by rw[HV.o];simp
           subst heq;go_wp2_with fail;go_quiet (fail);go_wp2_with fail;go_meet;exact⟨by rw[y5.o],_,by rw[HWX.o];exact World.drewN_drewN _ _ _⟩
          | true=>
           rcases HBI.o with ⟨hb,hd⟩ | ⟨b,pb,hb,hpb,hd⟩
           ·have y5:Hd (V=true):=qH <| by rw[HV.o,hd];simp[heq];omega
            subst heq hb;clear hd;go_wp2_with fail;go_quiet (fail);go_wp2_with fail;go_meet;exact⟨by rw[y5.o],_,by rw[HWX.o];exact World.drewN_drewN _ _ _⟩
           ·obtain⟨rb,-⟩:=aDY.o.at' b pb hpb;have hbk:b<k:=by have:=(bU hpb).1;have:=HQ.o;omega
            have hbi:(b:Int)<k:=by omega
            have hb0:¬(b:Int)<0:=by omega
            have hbd0:=lT hb0;have aGC:(0:Int)<=(b:Int):=by omega
            obtain⟨FB,Vz⟩:=eX pb.1.fr;rw[<-Vz]at rb hd;have sFB:=ai FB;by_cases hcm:FB.length<F.length
            ·have hci:(FB.length:Int)<F.length:=by omega
             have y5:Hd (V=true):=qH <| by rw[HV.o,hd];simp[heq,hcm]
             subst heq hb;clear hd Vz hpb;go_wp2_with fail;go_quiet (fail);go_wp2_with fail;go_meet;exact⟨by rw[y5.o],_,by rw[HWX.o];exact World.drewN_drewN _ _ _⟩
            ·have hci:¬(FB.length:Int)<F.length:=by omega
             have y5:Hd (V=false):=qH <| by rw[HV.o,hd];simp[hcm]
             subst heq hb;clear hd Vz hpb;go_wp2_with fail;go_quiet (fail);go_wp2_with fail;go_meet;exact⟨by rw[y5.o],_,by rw[HWX.o];exact World.drewN_drewN _ _ _⟩
         ·have heb:(S==F)=false:=by simpa using heq
          have y5:Hd (V=false):=qH <| by rw[HV.o];simp[heq]
          go_wp2_with fail;go_quiet (fail);go_wp2_with fail;go_meet;exact⟨by rw[y5.o],_,by rw[HWX.o];exact World.drewN_drewN _ _ _⟩
        ·have hfi:¬(i:Int)+(F.length:Int)<=z.length:=by omega
         have hfd:=lT hfi;have hfe:(z.length:Int)<i+(F.length:Int):=by omega
         have y5:Hd (V=false):=qH <| by
          rw[HV.o];have:Th.stands F z i=false:=by unfold Th.stands;rw[lT (by omega),Bool.false_and]
          rw[this];rfl
         go_wp2_with fail;go_quiet (fail);go_wp2_with fail;go_meet;exact⟨by rw[y5.o],_,by rw[HWX.o];exact World.drewN_drewN _ _ _⟩
       case rest=>
        obtain⟨rfl,m2,hwc⟩:=hcut;clear r0 o0 o1
        cases V with
        | true=>
         have Zu:=rM.o _ rfl;have HB2:Hd (aAv ps (j:Int) (F.length,p.1.tt)):=Or.inr ⟨j,p,rfl,HP.o,by rw[HF.o]⟩;have HN3:Hd (jV ((ps.map Prod.fst).drop (j+1)) (ak (z.drop i)) (F.length,p.1.tt)=D):=Zu;have HWC:=qH hwc;clear Zu hwc;go_wp2_with fail;go_roundg (k-(j+1))
         case measure=>omega
         case rel=>exact⟨j+1,(j:Int),_,m2,by omega,rfl,by go_num,rfl,HB2.o,HN3.o,HWC.o⟩
        | false=>
         have Zu:=rM.o _ rfl;have HN3:Hd (jV ((ps.map Prod.fst).drop (j+1)) (ak (z.drop i)) d=D):=Zu;have HWC:=qH hwc;clear Zu hwc;go_wp2_with fail;go_roundg (k-(j+1))
         case measure=>omega
         case rel=>exact⟨j+1,bi,d,m2,by omega,rfl,by go_num,rfl,HBI.o,HN3.o,HWC.o⟩
      ·have hji:¬(j:Int)<k:=by omega
       obtain rfl:j=k:=by omega
       have hDd:d=D:=by
        rw[<-hbd,drop_of_length_le (by rw[length_map];have:=HQ.o;omega)];rfl
       subst hDd;have aDY:=qH (HLR.o.drewN m);have hst:=aBX (l:=ps.map Prod.fst) HWB.o hiz;rw[<-HD.o]at hst;have hown2:(wr.drewN m).ownsRow W1.heap.size 5 1 u5 out.length (Lib.byteCells out):=HOW.o;have lF:=qH (HM.o.drewN m);have hsz:=lF.o.size;obtain⟨i0,af,hz0,hz1,hz2⟩:=info_parts aDX;generalize wr.drewN m=wx at *;have hlo:=fun g (h:u5.ownBlock=some g)=>(hown2.lt g h).1
       have hs1:i<(sb z).size:=by rw[ai];exact hiz
       have hi0:(0:Int)<=(i:Int):=by omega
       rcases hbi with ⟨hb,hd⟩ | ⟨b,pb,hb,hpb,hd⟩
       ·have hzc:z[i]=(sb z)[i]:=by
         have h:=LC z i hs1;rw[bG hiz]at h;exact dY h
        have rM:Hd ((out++[(sb z)[i]])++wV (ps.map Prod.fst) 0 (ak (z.drop (i+1)))=E):=by
         show (out++[(sb z)[i]])++_=E;rw[<-HE2.o,hst,hd,aU (by simp),hzc];simp
        subst hb;clear hst hzc hd hbd;go_wp2_with (at_builtin;refine wpList_append_lies _ rfl _ _ 100 rfl W1.heap.size 5 i0 _ 1 1 underlying100 af hz0 hz1 hz2 rfl (by omega) u5 out.length (Lib.byteCells out) rfl (hown2.alloc _) (J wx.heap.size 0) 1 1 [.int .u8 ((sb z)[i].toNat:Int)] rfl rfl (World.news_of_block (cs:=#[.int .u8 ((sb z)[i].toNat:Int)]) (t:=5) (fr:=(0,0)) (heap_alloc_new wx _)) (by intro u hu;simp at hu;rw[hu];rfl) (by omega) (by unfold maxLen;omega) (by omega) (by simp;omega) (wx.heap.size+1) (by simp) ?_);intro gg cap2 w4 hown4 hgrow hat fJ;have HO4:Hd (w4.ownsRow W1.heap.size 5 1 (Jn gg (out.length+1) cap2) (out++[(sb z)[i]]).length (Lib.byteCells (out++[(sb z)[i]]))):=by
         rw[length_append,TV];exact hown4
        have HM4:=qH ((lF.o.alloc _).grown hgrow (fun g h h2=>absurd h2 (by have:=hlo g h;omega)));clear hown2 hown4 hgrow hat fJ af hz0 hz1 hz2 hlo lF;go_wp2_with fail;go_roundg (z.length-(i+1))
        case measure=>omega
        case rel=>exact⟨i+1,_,by omega,rfl,by go_num,by rw[length_append,length_singleton];omega,HO4.o,rM.o,HM4.o⟩
       ·obtain⟨rb,rt,-⟩:=aDY.o.at' b pb hpb;have hpo:=J7.o pb (iI hpb);have hbk:b<j:=by have:=(bU hpb).1;have:=HQ.o;omega
        have hbi:(b:Int)<j:=by omega
        have hb0:¬(b:Int)<0:=by omega
        have aGC:(0:Int)<=(b:Int):=by omega
        have hfit:=QF (ak (z.drop i)) (ps.map Prod.fst) (0,[]) (Nat.zero_le _);rw[<-HD.o,hd,mP,length_drop]at hfit;have hf1:=hpo.side.f1;have Vx:=hpo.side.t4;obtain⟨FB,Vz⟩:=eX pb.1.fr;obtain⟨TB,hTB⟩:=eX pb.1.tt;have aHj:FB.length<=z.length-i:=by rw[Vz];exact hfit
        rw[<-Vz]at rb hf1;rw[<-hTB]at rt Vx;have sFB:=ai FB;have sTB:=ai TB;have rM:Hd ((out++TB)++wV (ps.map Prod.fst) 0 (ak (z.drop (i+FB.length)))=E):=by
         show (out++TB)++_=E;rw[<-HE2.o,hst,hd,aP (by show 0<pb.1.fr.length;rw[<-Vz];omega),hTB,Vz];simp
        subst hb;have HPB:=qH hpb;have HFB:=qH Vz;clear hst hd hbd hfit Vz hTB hpo hpb;go_wp2_with (at_builtin;refine Lib.wpList_append_own_string wx rfl _ _ 100 9 rfl W1.heap.size 5 i0 underlying100 underlying9 af hz0 hz1 hz2 _ out.length (Lib.byteCells out) rfl hown2 (sb TB) rfl (by rw[sTB];unfold maxLen;omega) (by rw[sTB];omega) hsz ?_);intro v2 w4 hown4 hg4 aAs;rw[xk]at hown4;have HO4:Hd (w4.ownsRow W1.heap.size 5 1 v2 (out++TB).length (Lib.byteCells (out++TB))):=by
         have e:Lib.byteCells (out++TB)=Lib.byteCells out++Lib.byteCells TB:=by simp[Lib.byteCells]
         rw[length_append,e,<-sTB];exact hown4
        have HM4:=qH (lF.o.grown hg4 (fun g h h2=>absurd h2 (by have:=hlo g h;omega)));have HLW:=qH (HLK.o.no HM4.o);obtain⟨rb4,-⟩:=HLW.o.at' b pb HPB.o;rw[<-HFB.o]at rb4;clear hown2 hown4 hg4 aAs af hz0 hz1 hz2 hlo lF rb rt HLW HPB HFB;go_wp2_with fail;go_roundg (z.length-(i+FB.length))
        case measure=>omega
        case rel=>exact⟨i+FB.length,_,by omega,rfl,by go_num,by rw[length_append];omega,HO4.o,rM.o,HM4.o⟩
    ·have hii:¬(i:Int)<z.length:=by omega
     have HEE:Hd (out=E):=qH <| by
      rw[<-hE2,drop_of_length_le (by omega)];simp[ak,wV]
     have HM:=qH (Ot.o.no hM);rcases hown.2 with ⟨rfl,h0⟩ | ⟨g,cap',cur,rfl,-,-,-,-,-,-⟩
     ·have hcv:∀wx,(convert 100 9 (.slice none 0 0)).run prog wx=.ok (.string ⟨#[]⟩) wx:=fun wx=>by rw[run_convert_bytes_string wx 100 9 5 none 0 0 underlying100 underlying5 underlying9];rfl
      obtain rfl:out=[]:=eq_nil_of_length_eq_zero h0;clear hown hE2 hM;go_wp2_with fail;go_ret;exact⟨by rw[<-HEE.o];rfl,HM.o⟩
     ·have hcv1:=run_convert_bytes_back (P:=prog) wr 100 9 5 (J g 0) cap' out underlying100 underlying5 underlying9 (fun j hj=>hown.cells (g:=g) rfl j _ (by simp[Lib.byteCells,hj]));clear hown hE2 hM;go_wp2_with fail;go_ret;exact⟨by rw[<-HEE.o];rfl,HM.o⟩
theorem aCh{l:List Th.LR}(z:List Nat)(ho:∀a∈l,a.Ok):∀(d:Nat × Th.By),d.2.length<=4->(jV l z d).2.length<=4:=by
 induction l with
 | nil=>exact fun d h=>h
 | cons a l ih=>
  intro d h;rw[jV];refine ih (fun b hb=>ho b (mem_cons_of_mem _ hb)) _ ?_;split
  ·exact(ho a mem_cons_self).side.t4
  ·exact h
theorem Ll(k:Nat):(aT k).length<=4:=by simp[aT]
theorem Lm{l:List Th.LR}(ho:∀a∈l,a.Ok):∀(z:List Nat) (t:Nat),(wV l t z).length<=4*z.length
 | [],t=>by cases t <;> simp[wV]
 | k::z,t+1=>by
  rw[wV];have:=Lm ho z t;rw[length_cons];omega
 | k::z,0=>by
  rw[wV,length_cons];split
  ·have h1:=aCh (k::z) ho (0,[]) (by simp);have h2:=Lm ho z ((jV l (k::z) (0,[])).1-1);rw[length_append];omega
  ·have h1:=Ll k;have h2:=Lm ho z 0;rw[length_append];omega
def aGD(x:pY):Value:=.agg #[.string (sb x.x),.string (sb x.y),.string (sb x.z1),.string (sb x.z2),I x.c]
def aIZ(l:List Th.LR):Bool:=l.any fun a=>fK a.c
theorem QG(w:World)(b R cap:Nat)(T nv wv:Value)(ps:List (Th.LR × Value))(x:pY)(hb:aG w b [Jn R ps.length cap,T,nv,wv] 31)(hL:nZ w (Jn R ps.length cap) ps)(hok:∀p∈ps,p.1.Ok)(hps:ps.length<=4)(hp1:1<=ps.length)(hW:aBU (ps.map Prod.fst) x):J1 12 #[Jx b 0,aGD x] w fun e w'=>e=.returned (.bool true)∧Mod No w w':=by
 obtain⟨q,hq⟩:=eX ps.length;rw[<-hq]at hb hL hps hp1;have HQ:=qH hq;have HB:=qH hb;have HL:=qH hL;have J7:=qH hok;have HW:=qH hW;have Fj:Hd (∀k,k<q->∃p,ps[k]?=some p):=fun k hk=>⟨ps[k]'(by omega),bG _⟩
 have ix:=ai x.x;have iy:=ai x.y;have iz1:=ai x.z1;have iz2:=ai x.z2;obtain⟨lc,lx,ly,lz1,lz2⟩:=hW.small;have hy0:=hW.y0;clear hq hb hL hok hW;show J1 12 #[Jx b 0,.agg #[.string (sb x.x),.string (sb x.y),.string (sb x.z1),.string (sb x.z2),I x.c]] w _;go_enter func12,ntmps12;have b0:=HB.o.aS 0 rfl;have aCi:Hd (aIZ (ps.map Prod.fst)=true):=by
  obtain⟨a,ha,hl⟩:=HW.o.loop;exact any_eq_true.2 ⟨a,ha,hl⟩
 have HM0:Hd (Mod No w (w.alloc (.cells #[.string (sb x.x),.string (sb x.y),.string (sb x.z1),.string (sb x.z2),I x.c] 40))):=(Mod.refl _ _).alloc _;have HX0:Hd (aG (w.alloc (.cells #[.string (sb x.x),.string (sb x.y),.string (sb x.z1),.string (sb x.z2),I x.c] 40)) w.heap.size [.string (sb x.x),.string (sb x.y),.string (sb x.z1),.string (sb x.z2),I x.c] 40):=aG.new _ _ _;go_wp2_with fail;go_loopg [5,16] q (fun g s5 s16 wr=>∃(k:Nat) (f:Bool),k<=q∧g=q-k∧s16=I k∧s5=.bool f∧f=aIZ ((ps.take k).map Prod.fst)∧Mod No w wr∧aG wr w.heap.size [.string (sb x.x),.string (sb x.y),.string (sb x.z1),.string (sb x.z2),I x.c] 40)
 case atStart=>exact⟨0,false,by omega,by omega,rfl,rfl,rfl,HM0.o,HX0.o⟩
 case round=>
  obtain⟨k,f,hk,hg,rfl,rfl,hf,hM,hX⟩:=hrel;have HM:=qH hM;have HX:=qH hX;by_cases hkq:k<q
  ·have hki:(k:Int)<q:=by omega
   have hk0:(0:Int)<=(k:Int):=by omega
   obtain⟨p,hp⟩:=Fj.o k hkq;have hL':=HL.o.mod HM.o;have c:=fun j u hu=>hL'.row.cell k j (x:=p) (u:=u) hp hu
   have c0:=c 0 _ rfl;have c1:=c 1 _ rfl;have c2:=c 2 _ rfl;have c3:=c 3 _ rfl;have c4:=c 4 _ rfl;have c5:=c 5 _ rfl;change wr.cell? (J R (k*6+0))=_ at c0;change wr.cell? (J R (k*6+1))=_ at c1;change wr.cell? (J R (k*6+2))=_ at c2;change wr.cell? (J R (k*6+3))=_ at c3;change wr.cell? (J R (k*6+4))=_ at c4;change wr.cell? (J R (k*6+5))=_ at c5;rw[Nat.add_zero]at c0;obtain⟨F,hF⟩:=eX (fK p.1.c);obtain⟨A,hA⟩:=eX p.1.c.loopA;obtain⟨B,hB⟩:=eX p.1.c.qJ;obtain⟨FR,hFR⟩:=eX p.1.fr;obtain⟨TT,IQ⟩:=eX p.1.tt;obtain⟨VW,hVW⟩:=eX p.2;rw[<-hFR]at c0;rw[<-IQ]at c1;rw[<-hVW]at c2;rw[<-hF]at c3;rw[<-hA]at c4;rw[<-hB]at c5;have hfl:aIZ ((ps.take (k+1)).map Prod.fst)=(f||F):=by
    rw[take_add_one,hp];simp[aIZ,hf,hF]
   have HFL:=qH hfl;have hvw:∃va vn vc,VW=.slice va vn vc:=by
    rw[hVW];obtain⟨va,vc,h,-,-,-⟩:=(HL.o.Y5 p (iI hp)).any;exact⟨va,_,vc,h⟩
   obtain⟨va,vn,vc,rfl⟩:=hvw;have hnew:=aG.new wr [.string (sb FR),.string (sb TT),.slice va vn vc,.bool F,.int .u8 A.toNat,.int .u8 B.toNat] 76;have x3:=hnew.cell 3 rfl;have I7:Hd (aG (wr.alloc (.cells #[.string (sb FR),.string (sb TT),.slice va vn vc,.bool F,.int .u8 A.toNat,.int .u8 B.toNat] 76)) w.heap.size [.string (sb x.x),.string (sb x.y),.string (sb x.z1),.string (sb x.z2),I x.c] 40):=HX.o.alloc _;have lF:Hd (Mod No w (wr.alloc (.cells #[.string (sb FR),.string (sb TT),.slice va vn vc,.bool F,.int .u8 A.toNat,.int .u8 B.toNat] 76))):=HM.o.alloc _;clear hf hp hL' c hF hA hB hFR IQ hVW hfl hnew
   cases f with
   | false=>
    go_wp2_with fail;go_roundg (q-(k+1))
    case measure=>omega
    case rel=>exact⟨k+1,_,by omega,rfl,by go_num,rfl,by rw[HFL.o];rfl,lF.o,I7.o⟩
   | true=>
    go_wp2_with fail;go_roundg (q-(k+1))
    case measure=>omega
    case rel=>exact⟨k+1,_,by omega,rfl,by go_num,rfl,by rw[HFL.o];rfl,lF.o,I7.o⟩
  ·have hki:¬(k:Int)<q:=by omega
   obtain rfl:k=q:=by omega
   obtain rfl:f=true:=by
    rw[hf,HQ.o,take_length];exact aCi.o
   clear hf;have x0:=HX.o.cell 0 rfl;have x1:=HX.o.cell 1 rfl;have x2:=HX.o.cell 2 rfl;have x3:=HX.o.cell 3 rfl;have x4:=HX.o.cell 4 rfl;have hc0:¬(x.c:Int)<0:=by omega
   have hc4:¬(400:Int)<(x.c:Int):=by omega
   have hyb:(x.y==[])=false:=by simpa using hy0
   have hto:¬(4000:Int)<(x.x.length:Int)+(x.y.length:Int)+(x.z1.length:Int)+(x.z2.length:Int):=by omega
   have DN:Hd (Mod No w (wr.alloc (.cells #[I 1,I 4,I 9] 3))):=HM.o.alloc _;have HX1:Hd (aG (wr.alloc (.cells #[I 1,I 4,I 9] 3)) w.heap.size [.string (sb x.x),.string (sb x.y),.string (sb x.z1),.string (sb x.z2),I x.c] 40):=HX.o.alloc _;have Y6:Hd (aG (wr.alloc (.cells #[I 1,I 4,I 9] 3)) wr.heap.size [I 1,I 4,I 9] 3):=aG.new _ _ _;go_wp2_with fail;generalize wr.alloc (.cells #[I 1,I 4,I 9] 3)=W1 at *;generalize wr.heap.size=GB at *;generalize wr=W0 at *;go_loopg [61] 3 (fun g s61 wx=>∃(j:Nat),j<=3∧g=3-j∧s61=I j∧Mod No W1 wx)
   case atStart=>exact⟨0,by omega,by omega,rfl,Mod.refl _ _⟩
   case round=>
    obtain⟨j,hj,hg2,rfl,hMx⟩:=hrel;generalize wr=W2 at *;have lF:=qH hMx;by_cases hj3:j<3
    ·have hji:(j:Int)<3:=by omega
     have hj0:(0:Int)<=(j:Int):=by omega
     have hB2:=Y6.o.mod lF.o (fun y=>y);obtain⟨n,hn1,hn9,cn⟩:∃n:Nat,1<=n∧n<=9∧W2.cell? (J GB j)=some (I n):=by
      match j,hj3 with
      | 0,_=>exact⟨1,by omega,by omega,hB2.cell 0 rfl⟩
      | 1,_=>exact⟨4,by omega,by omega,hB2.cell 1 rfl⟩
      | 2,_=>exact⟨9,by omega,by omega,hB2.cell 2 rfl⟩
     have hmul:x.y.length*(n+x.c)<=30*409:=Nat.mul_le_mul ly (by omega);have hrl:(Th.rep x.y (n+x.c)).length<=12270:=by rw[wM,Nat.mul_comm];omega
     have HT:Hd (∀wx,J1 36 #[.string (sb x.y),I ((n:Int)+(x.c:Int))] wx fun e w'=>e=.returned (.string (sb (Th.rep x.y (n+x.c))))∧Mod No wx w'):=fun wx=>by
      have:=times_any x.y (n+x.c) (by omega) (by omega) wx;rw[Int.natCast_add]at this;exact this.mono fun e w' h=>⟨h.1,by rw[h.2];exact Mod.refl _ _⟩
     have HPT:=HW.o.part n;obtain⟨Y,hY⟩:=eX (Th.rep x.y (n+x.c));rw[<-hY]at hrl HT HPT;have sY:=ai Y;have HWY:Hd (Th.Wb Y):=qH <| by
      rw[hY];exact RH HW.o.wb.2.1 _
     have HE:Hd (∀(z:List UInt8),Th.Wb z->z.length<=23->∀wx,Mod No w wx->J1 26 #[Jn R k cap,.string (sb (x.x++Y)++sb z)] wx fun e w'=>e=.returned (.string (sb (wV (ps.map Prod.fst) 0 (ak (x.x++Y++z)))))∧Mod No wx w'):=fun z hz hl wx hm=>by
      have hL:=HL.o.mod hm;have hq:=HQ.o;rw[dm];have h1:=Ib wx R cap ps (x.x++Y++z) (by rw[<-hq];exact hL) J7.o (by omega) (by omega) (nO (nO HW.o.wb.1 HWY.o) hz) (by rw[length_append,length_append];omega);rw[<-hq]at h1;exact h1
     have HL4:Hd (∀z:List UInt8,z.length<=23->(wV (ps.map Prod.fst) 0 (ak (x.x++Y++z))).length<=1000000):=fun z hz=>by
      have h:=Lm (l:=ps.map Prod.fst) (fun a ha=>by obtain⟨p,hp,rfl⟩:=mem_map.1 ha;exact J7.o p hp) (ak (x.x++Y++z)) 0;rw[mP,length_append,length_append]at h;omega
     have H1:=HE.o x.z1 HW.o.wb.2.2.1 lz1;have H2:=HE.o x.z2 HW.o.wb.2.2.2 lz2;have L1:=HL4.o x.z1 lz1;have L2:=HL4.o x.z2 lz2;generalize wV (ps.map Prod.fst) 0 (ak (x.x++Y++x.z1))=E1 at H1 L1 HPT;generalize wV (ps.map Prod.fst) 0 (ak (x.x++Y++x.z2))=E2 at H2 L2 HPT;have HA:Hd (∀wx,J1 37 #[.string (sb E1),.string (sb E2)] wx fun e w'=>e=.returned (I (uO E1 E2:Int))∧Mod No wx w'):=fun wx=>by
      refine(Wu E1 E2 wx L1 L2).mono ?_;rintro e w' ⟨h,m,rfl⟩;exact⟨h,(Mod.refl _ _).drewN m⟩
     have HAL:uO E1 E2<=2000000:=by unfold uO;omega
     generalize uO E1 E2=D at HA HPT HAL;have hnD:¬(D:Int)<n:=by omega
     have Ot:=qH (DN.o.no lF.o);have qi:=qH fun(X:After W2)=>H1 _ (Ot.o.no X.property)
     have vW:=qH fun(X:After W2)=>H2 _ (Ot.o.no X.property)
     clear H1 H2 HE HL4 hY HPT L1 L2 hmul;have sXY:(sb (x.x++Y)).size=x.x.length+Y.length:=by rw[ai,length_append]
     have sap:sb x.x++sb Y=sb (x.x++Y):=dm _ _;go_wp2_with fail;have hne:Nonempty (After W2):=⟨⟨W2,Mod.refl _ _⟩⟩;have e0:=fun(X:After W2)=>((HX1.o.mod lF.o (fun y=>y)).mod X.property (fun y=>y)).cell 0 rfl
     have e1:=fun(X:After W2)=>((HX1.o.mod lF.o (fun y=>y)).mod X.property (fun y=>y)).cell 1 rfl
     have e4:=fun(X:After W2)=>((HX1.o.mod lF.o (fun y=>y)).mod X.property (fun y=>y)).cell 4 rfl
     refine aIw (by kernel_rfl) (by kernel_rfl) ?_;iterate 11 (go_big_quiet_step (exact Calls.calm (HT.o _)))
     refine wpQuiet_nil ?_;rintro _ ⟨X1,rfl⟩;rw[dm];have HX3:=qH ((HX1.o.mod lF.o (fun y=>y)).mod X1.property (fun y=>y));have Aa:=qH (lF.o.no X1.property);have HB3:=qH (HB.o.mod (Ot.o.no X1.property) (fun y=>y));have HH3:Hd (∀X:After X1.val,J1 26 #[Jn R k cap,.string (sb (x.x++Y)++sb x.z1)] X.val fun e w'=>e=.returned (.string (sb E1))∧Mod No X.val w'):=fun X=>qi.o ⟨X.val,X1.property.no X.property⟩
     have HH4:Hd (∀X:After X1.val,J1 26 #[Jn R k cap,.string (sb (x.x++Y)++sb x.z2)] X.val fun e w'=>e=.returned (.string (sb E2))∧Mod No X.val w'):=fun X=>vW.o ⟨X.val,X1.property.no X.property⟩
     generalize X1.val=W3 at *;go_wp2_with fail;have hne:Nonempty (After W3):=⟨⟨W3,Mod.refl _ _⟩⟩;have e2:=fun(X:After W3)=>(HX3.o.mod X.property (fun y=>y)).cell 2 rfl
     have e3:=fun(X:After W3)=>(HX3.o.mod X.property (fun y=>y)).cell 3 rfl
     have f0:=fun(X:After W3)=>(HB3.o.mod X.property (fun y=>y)).cell 0 rfl
     refine aIw (by kernel_rfl) (by kernel_rfl) ?_;iterate 9 (go_big_quiet_step (exact Calls.calm (HH3.o _)))
     iterate 9 (go_big_quiet_step (exact Calls.calm (HH4.o _)))
     iterate 3 (go_big_quiet_step (exact Calls.calm (HA.o _)))
     refine wpQuiet_nil ?_;rintro _ ⟨X2,rfl⟩;have HM4:=qH (Aa.o.no X2.property);generalize X2.val=W4 at *;go_wp2_with fail;go_roundg (3-(j+1))
     case measure=>omega
     case rel=>exact⟨j+1,by omega,rfl,by go_num,HM4.o⟩
    ·have hji:¬(j:Int)<3:=by omega
     go_wp2_with fail;go_ret;exact⟨rfl,DN.o.no lF.o⟩
theorem aJN:(prog.info? 145).map (fun i=>(i.zero,i.size,i.bytes))=some (some (.agg #[I 0,.string ⟨#[]⟩]),2,24):=by kernel_rfl
theorem aAx(a b:M2.Auto):(pX a b).nx.length=a.nx.length+b.nx.length∧(pX a b).hit.length=a.hit.length+b.hit.length:=by simp[pX]
theorem QH(w:World)(base:Nat)(vr:Value)(fB:List (aI.Rule × Value))(xZ:nD w base vr fB)(hp4:fB.length<=4)(hp0:0<fB.length){res:Option M2.View}(hM:M3.view (fB.map Prod.fst)=some res):J1 32 #[vr] w fun e w'=>aFl res w e w':=by
 obtain⟨n,hn⟩:=eX fB.length;obtain⟨ra,aDS,hvr,-,-⟩:=xZ.row.open hn.symm;obtain⟨gr,hgr⟩:∃g,ra=some (J g 0):=by
  obtain⟨g2,c2,h2,-⟩:=xZ.row.form hp0;rw[hvr]at h2;injection h2 with h2 _;exact⟨g2,h2⟩
 subst hgr;have HRU:=qH xZ;have HVR:=qH hvr;have HN:=qH hn;have HM:Hd (∃lr,jO ((fB.map Prod.fst).drop 0) ⟨[],[]⟩ []=some lr∧((lr=none∧res=none)∨∃a ss,lr=some (a,ss)∧((60<a.nx.length∧res=none)∨(¬60<a.nx.length∧0<a.nx.length∧(∀s∈ss,s<60)∧((oN a=some none∧res=none)∨∃k d,oN a=some (some k)∧fQ (fB.map Prod.fst) ss k k.ahead.length 0=some d∧IW ⟨k,d⟩=true∧res=some ⟨k,d⟩))))):=by
  unfold M3.view at hM;split at hM
  ·cases hM
  ·rename_i h;exact⟨none,h,Or.inl ⟨rfl,(dY hM).symm⟩⟩
  ·rename_i a ss h;refine⟨some (a,ss),h,Or.inr ⟨a,ss,rfl,?_⟩⟩;split at hM
   ·rename_i h60;exact Or.inl ⟨h60,(dY hM).symm⟩
   ·rename_i h60;split at hM
    ·cases hM
    ·rename_i h0;split at hM
     ·cases hM
     ·rename_i hs;have h0':0<a.nx.length:=by
       cases hq:a.nx with
       | nil=>rw[hq]at h0;simp at h0
       | cons x y=>simp
      have hs':∀s∈ss,s<60:=by
       simp at hs;exact hs
      refine Or.inr ⟨h60,h0',hs',?_⟩;split at hM
      ·cases hM
      ·rename_i hk;exact Or.inl ⟨hk,(dY hM).symm⟩
      ·rename_i k hk;split at hM
       ·cases hM
       ·rename_i d hd;split at hM
        ·rename_i hv;exact Or.inr ⟨k,d,hk,hd,hv,(dY hM).symm⟩
        ·cases hM
 obtain⟨lr,hlr,hrest⟩:=HM.o;have Ya:=qH hlr;have aAy:=qH hrest;have hn4:n<=4:=by omega
 clear xZ hM HM hlr hrest hn hp4 hp0;rw[hvr];clear hvr;have HI0:Hd (∀A B,A=Obj.cells #[aH,aH,aH,aH] 86->B=Obj.cells #[aH,aH] 138->NI w aH aH aH [] ⟨[],[]⟩ ((w.alloc A).alloc B)):=by
  intro A B hA hB;subst hA hB;exact⟨gq w _ _,fE w _ _,Row.nil _ _,Row.nil _ _,Row.nil _ _,((Mod.refl _ _).alloc _).alloc _,fun g hg=>(by cases hg),fun g hg=>(by cases hg),fun g hg=>(by cases hg)⟩
 go_enter func32,ntmps32;go_wp2_with fail;have HI1:Hd (NI w aH aH aH [] ⟨[],[]⟩ _):=HI0.o _ _ rfl rfl;clear HI0;go_loopg [5,17] n (fun gh v5 v17 wr=>∃(i:Nat) (lx lh:Value) (ss:List Nat) (au:M2.Auto),i<=n∧gh=n-i∧v17=I i∧jO ((fB.map Prod.fst).drop i) au ss=some lr∧NI w v5 lx lh ss au wr∧au.nx.length=au.hit.length∧au.nx.length<=60*i∧ss.length=i)
 case atStart=>exact⟨0,aH,aH,[],⟨[],[]⟩,by omega,by omega,rfl,Ya.o,HI1.o,rfl,by simp,rfl⟩
 case round=>
  obtain⟨i,lx,lh,ss,au,hin,hgk,rfl,hle,hI,hlen,h60,TW⟩:=hrel;have HI:=qH hI;clear HI1 Ya;by_cases hlt:i<n
  ·obtain⟨p,hp⟩:∃p,fB[i]?=some p:=⟨fB[i]'(by have:=HN.o;omega),bG _⟩;have hrow:=(HRU.o.no hI.md).row;rw[HVR.o]at hrow;have aCj:=HRU.o.all p (iI hp);have hstep:=QE (r:=p.1) (by rw[getElem?_map,hp];rfl) hle;obtain⟨pa,pc,hpv,-,-⟩:=aCj.row.open rfl;obtain⟨ru,pv⟩:=p;simp only at aCj hstep hpv;have r0:wr.cell? (J gr (i*6))=some (.string ⟨ru.fr.toArray⟩):=hrow.cell i 0 hp rfl;have r1:wr.cell? (J gr (i*6+1))=some (.string ⟨ru.tt.toArray⟩):=hrow.cell i 1 hp rfl;have r2:wr.cell? (J gr (i*6+2))=some pv:=hrow.cell i 2 hp rfl;have r3:wr.cell? (J gr (i*6+3))=some (.bool ru.wh.e):=hrow.cell i 3 hp rfl;have r4:wr.cell? (J gr (i*6+4))=some (.int .u32 ru.wh.f):=hrow.cell i 4 hp rfl;have r5:wr.cell? (J gr (i*6+5))=some (.int .u32 ru.wh.l):=hrow.cell i 5 hp rfl;have XL:Hd (∀wx res,Mod No w wx->jM ru=some res->J1 54 #[.agg #[pv,.bool ru.wh.e,.int .u32 ru.wh.f,.int .u32 ru.wh.l]] wx fun e w'=>Jc res wx e w'):=fun wx res hm hM=>XZ wx pv base ru (aCj.mod hm (fun _ _ x=>x)) hM
   generalize ru.ps.length=pn at hpv;subst hpv;have aAz:=qH hstep;have hii:(i:Int)<n:=by omega
   generalize (⟨ru.fr.toArray⟩:ByteArray)=FR at r0;generalize (⟨ru.tt.toArray⟩:ByteArray)=TT at r1;obtain⟨a5,c5,h5,-,-⟩:=hI.st.open TW;clear hI hrow aCj hstep hp hle;go_wp2_with fail;rcases aAz.o with ⟨hno,aGE⟩ | ⟨b,hb,hsm,hnext⟩
   ·refine(XL.o _ none (HI.o.md.alloc _) hno).mono ?_;rintro e w2 ⟨m2,he⟩;have he:e=.returned (.tuple #[.agg #[.slice none 0 0,.slice none 0 0],.bool false]):=he;subst he;obtain rfl:res=none:=by
     rcases aAy.o with ⟨-,h⟩ | ⟨a,s2,h,-⟩
     ·exact h
     ·rw[aGE]at h;cases h
    have HI2:=qH ((HI.o.no ((Mod.refl _ _).alloc _)).no m2);have z0:=HI2.o.res.aS 0 rfl;have z1:=HI2.o.res.aS 1 rfl;have z2:=HI2.o.res.aS 2 rfl;have z3:=HI2.o.res.aS 3 rfl;have f0:=HI2.o.res.dQ 0;have f1:=HI2.o.res.dQ 1;have f2:=HI2.o.res.dQ 2;have f3:=HI2.o.res.dQ 3;clear m2 XL aAz HI r0 r1 r2 r3 r4 r5;go_wp2;refine bodyPost_ret (v:=.tuple #[.agg #[aH,aH,aH,aH],.bool false]) (by simp[results,results32,go_sem,z0,z1,z2,z3]) rfl ⟨?_,rfl⟩;exact((((HI2.o.md.alloc _).setCell (a:=J w.heap.size 0) (fun e=>absurd e (by simp)) _).setCell (a:=J w.heap.size 1) (fun e=>absurd e (by simp)) _).setCell (a:=J w.heap.size 2) (fun e=>absurd e (by simp)) _).setCell (a:=J w.heap.size 3) (fun e=>absurd e (by simp)) _
   ·refine(XL.o _ (some b) (HI.o.md.alloc _) hb).mono ?_;rintro e w2 ⟨m2,ux,uh,rfl,hux,huh,fux,fuh,hul,hub⟩;obtain⟨aDT,hs0,aFm⟩:=X9 hsm;have m1:Mod No wr w2:=((Mod.refl _ _).alloc _).no m2;have hfx:∀g,lx.ownBlock=some g->ux.ownBlock≠some g:=fun g h1 h2=>by have h3:=HI.o.nx.lt h1;have h4:=fux g h2;simp at h4;omega
    have hfh:∀g,lh.ownBlock=some g->uh.ownBlock≠some g:=fun g h1 h2=>by have h3:=HI.o.hit.lt h1;have h4:=fuh g h2;simp at h4;omega
    obtain⟨L,hL⟩:=eX au.nx.length;obtain⟨xa,xc,hlx,-,-⟩:=HI.o.nx.open hL.symm;obtain⟨ua,uc,aDZ,-,-⟩:=hux.open rfl;obtain⟨va,vc,aCk,-,-⟩:=huh.open rfl;rw[<-hul]at aCk;generalize hBn:b.nx.length=bn at aDZ aCk aDT hs0 hul;have HI2:=qH (HI.o.no m1);have HU:=qH (a4 hux huh aDZ aCk);have HF:=qH (a2 hfx hfh);have HB:Hd (b.nx.length=bn∧b.nx.length=b.hit.length∧∀r∈b.nx,∀l,l<4->TF r l<=300000):=⟨hBn,by omega,aFm⟩;have pV:=qH hnext;have Lc:=qH (a2 hlx hL);have k0:=HI2.o.kK.aS 0 rfl;rw[hlx]at k0;have hown:w2.ownsRow 0 3 1 (.slice a5 i c5) i (ss.flatMap dh.f):=by
     have h2:w2.ownsRow 0 3 1 u5 ss.length (ss.flatMap dh.f):=HI2.o.st
     rwa [TW,h5]at h2
    obtain⟨i0,af,hz0,hz1,hz2⟩:=info_parts aID;have HU5:=qH h5;have hL2:L<=60*i:=by omega
    have Ce:=qH hlen;have Gp:=qH TW;subst aDZ aCk;clear m2 hux huh fux fuh m1 hfx hfh hBn aFm hsm hnext hb hul hub XL aAz HI r0 r1 r2 r3 r4 r5 hlx hL hlen h60 TW;subst h5;go_wp2_with (at_builtin;refine wpList_append_lies _ rfl _ _ 95 rfl 0 3 i0 _ 1 8 underlying95 af hz0 hz1 hz2 rfl (by omega) (.slice a5 i c5) i (ss.flatMap dh.f) rfl ((hown.alloc _).alloc _) ⟨w2.heap.size+1,0,none⟩ 1 1 [I L] rfl rfl (World.news_of_block (cs:=#[I L]) (t:=3) (fr:=(0,0)) (fE w2 _ _)) (by intro u hu;simp at hu;rw[hu];rfl) (by omega) (by unfold maxLen;omega) (by omega) (by simp) (w2.heap.size+2) (by simp) ?_);intro gg cap2 w4 hown4 hgrow hat fJ;have hr4:Row dh w4 (Jn gg (i+1) cap2) (ss++[au.nx.length]):=jq Gp.o (by rw[<-Lc.o.2];rfl) hown4;have hm4:Mod No w2 ((w2.alloc (.cells #[.slice ua bn uc,.slice va bn vc] 138)).alloc (.cells #[I L] 3)):=((Mod.refl _ _).alloc _).alloc _;have zk:=HI2.o.no hm4;have hf4:aN ((w2.alloc (.cells #[.slice ua bn uc,.slice va bn vc] 138)).alloc (.cells #[I L] 3)) (.slice a5 i c5) (Jn gg (i+1) cap2):=gW (H:=w2.heap.size+2) hat (by simp);have HI4:=qH (zk.start hgrow hr4 hf4);have hb3:aG ((w2.alloc (.cells #[.slice ua bn uc,.slice va bn vc] 138)).alloc (.cells #[I L] 3)) w2.heap.size [.slice ua bn uc,.slice va bn vc] 138:=gq w2 _ _;have hb4:=hb3.grown hgrow (fun e=>hb3.apart zk.st (by decide) e.symm);have hx4:=(HU.o.1.no hm4).grown hgrow ((HU.o.1.no hm4).far zk.st (by decide));have hh4:=(HU.o.2.1.no hm4).grown hgrow ((HU.o.2.1.no hm4).far zk.st (by decide));have h19:=aAn w4 (w.heap.size+1) lx lh (.slice ua bn uc) (.slice va bn vc) au b HI4.o.kK HI4.o.nx HI4.o.hit hx4 hh4 HF.o.1 HF.o.2 HB.o.2.1 Ce.o (by have:=HB.o.1;have:=Lc.o.2;omega) HB.o.2.2;have y0:=hb4.cell 0 rfl;have y1:=hb4.cell 1 rfl;clear hr4 hm4 zk hf4 hb3 hb4 hx4 hh4 hown4 hgrow hat fJ hown af hz0 hz1 hz2 k0;go_wp2_with fail;refine h19.mono ?_;rintro e w5 ⟨rfl,lx',lh',hA⟩;have uF:=qH (HI4.o.add hA);clear h19 hA y0 y1 HI4;go_wp2;go_roundg (n-(i+1))
    case measure=>omega
    case rel=>
     have hal:=aAx au b;exact⟨i+1,lx',lh',_,_,by omega,rfl,by go_num,pV.o,uF.o,by rw[hal.1,hal.2,Ce.o,HB.o.2.1],by rw[hal.1];have:=HB.o.1;have:=Lc.o.2;omega,by simp[Gp.o]⟩
  ·obtain rfl:i=n:=by omega
   have e1:(fB.map Prod.fst).drop i=[]:=drop_of_length_le (by rw[length_map];have:=HN.o;omega);rw[e1,jO]at hle;have hlr:=dY hle;obtain⟨L,hL⟩:=eX au.nx.length;obtain⟨xa,xc,hlx,-,-⟩:=hI.nx.open hL.symm;obtain⟨ha,hc',hlh,-,-⟩:=hI.hit.open (n:=L) (by omega);have k0:=hI.kK.cell 0 rfl;have k1:=hI.kK.cell 1 rfl;rw[hlx]at k0;rw[hlh]at k1;have hrest:(60<au.nx.length∧res=none)∨(¬60<au.nx.length∧0<au.nx.length∧(∀s∈ss,s<60)∧((oN au=some none∧res=none)∨∃k d,oN au=some (some k)∧fQ (fB.map Prod.fst) ss k k.ahead.length 0=some d∧IW ⟨k,d⟩=true∧res=some ⟨k,d⟩)):=by
    rcases aAy.o with ⟨h,-⟩ | ⟨a,s2,h,hr⟩
    ·rw[<-hlr]at h;cases h
    ·rw[<-hlr]at h;obtain⟨rfl,rfl⟩:a=au∧s2=ss:=by cases h;exact⟨rfl,rfl⟩
     exact hr
   clear aAy hle hlr e1;rcases hrest with ⟨hbig,rfl⟩ | ⟨hsm,h0,hs6,hrest⟩
   ·have hLi:(60:Int)<(L:Int):=by omega
    have z0:=HI.o.res.cell 0 rfl;have z1:=HI.o.res.cell 1 rfl;have z2:=HI.o.res.cell 2 rfl;have z3:=HI.o.res.cell 3 rfl;have f0:=HI.o.res.free 0;have f1:=HI.o.res.free 1;have f2:=HI.o.res.free 2;have f3:=HI.o.res.free 3;clear hI hlx hlh hL hlen h60 TW;go_wp2;refine bodyPost_ret (v:=.tuple #[.agg #[aH,aH,aH,aH],.bool false]) (by simp[results,results32,go_sem,z0,z1,z2,z3]) rfl ⟨?_,rfl⟩;exact(((HI.o.md.setCell (a:=J w.heap.size 0) (fun e=>absurd e (by simp)) _).setCell (a:=J w.heap.size 1) (fun e=>absurd e (by simp)) _).setCell (a:=J w.heap.size 2) (fun e=>absurd e (by simp)) _).setCell (a:=J w.heap.size 3) (fun e=>absurd e (by simp)) _
   ·have hLi:¬(60:Int)<(L:Int):=by omega
    have H20:Hd (∀r,oN au=some r->J1 56 #[.agg #[.slice xa L xc,.slice ha L hc']] wr fun e w'=>aCU r wr e w'):=fun r hk=>by
     have:=QB wr lx lh au hI.nx hI.hit h0 (by omega) hlen hk
     rwa [hlx,hlh]at this
    have HS6:=qH hs6;have HSL:=qH TW;clear hI hlx hlh hL hlen h60 TW hs6 h0 hsm;rcases hrest with ⟨hk,rfl⟩ | ⟨k,d,hk,hd,hv,rfl⟩
    ·go_wp2_with fail;refine(H20.o _ hk).mono ?_;rintro e w2 ⟨m2,he⟩;have he:e=.returned (.tuple #[.agg #[aH,aH,aH],.bool false]):=he;subst he;have HI2:=qH (HI.o.no m2);have z0:=HI2.o.res.aS 0 rfl;have z1:=HI2.o.res.aS 1 rfl;have z2:=HI2.o.res.aS 2 rfl;have z3:=HI2.o.res.aS 3 rfl;have f0:=HI2.o.res.dQ 0;have f1:=HI2.o.res.dQ 1;have f2:=HI2.o.res.dQ 2;have f3:=HI2.o.res.dQ 3;clear m2 H20 HI k0 k1;go_wp2;refine bodyPost_ret (v:=.tuple #[.agg #[aH,aH,aH,aH],.bool false]) (by simp[results,results32,go_sem,z0,z1,z2,z3]) rfl ⟨?_,rfl⟩;exact((((HI2.o.md.alloc _).setCell (a:=J w.heap.size 0) (fun e=>absurd e (by simp)) _).setCell (a:=J w.heap.size 1) (fun e=>absurd e (by simp)) _).setCell (a:=J w.heap.size 2) (fun e=>absurd e (by simp)) _).setCell (a:=J w.heap.size 3) (fun e=>absurd e (by simp)) _
    ·go_wp2_with fail;refine(H20.o _ hk).mono ?_;rintro e w2 ⟨m2,ka,kw,kh,rfl,hKP⟩;obtain⟨aFn,hv24,uU⟩:=aDU hv;simp only at hv24 uU;obtain⟨N2,hN2⟩:=eX k.ahead.length;obtain⟨b1,d1,hka,-,-⟩:=hKP.ah.open hN2.symm;obtain⟨b2,d2,hkw,-,-⟩:=hKP.wo.open rfl;obtain⟨b3,d3,hkh,-,-⟩:=hKP.hi.open (n:=N2) (by omega);generalize k.words.length=NW at hkw;have hI2:=HI.o.no m2;have HDG:Hd (∀j,j<N2->∃x,d[j]?=some x∧dU k j (fB.map Prod.fst) ss (0,[])=some x):=fun j hj=>by
      have:=rD _ _ _ _ _ _ j hd (by omega);simpa using this
     have HDL:Hd (d.length=N2):=qH <| by rw[Jh _ _ _ _ _ _ hd];exact hN2.symm
     have H21:Hd (∀wx j x,Mod No w wx->Row dh wx u5 ss->Row Pj wx (.slice b3 N2 d3) k.hits->j<N2->dU k j (fB.map Prod.fst) ss (0,[])=some x->J1 57 #[Jn gr i aDS,u5,.agg #[.slice b1 N2 d1,.slice b2 NW d2,.slice b3 N2 d3],I j] wx fun e w'=>e=.returned (.agg (dc x).toArray)∧Mod No wx w'):=fun wx j x hm hst hhi hj hx=>by
      have hR:=HRU.o.no hm;rw[<-hkh]at hhi;have:=TS wx b1 b2 N2 d1 NW d2 kh k j vr fB u5 ss hR.row hst (fun r hr=>by obtain⟨a,c,h,-⟩:=(hR.all r hr).row.any;exact⟨_,_,_,h⟩) (fun r hr=>by have:=(hR.all r hr).fr;omega) (by rw[HSL.o];exact HN.o.symm) HS6.o hhi hKP.ok.six (by omega) (by omega) (by have:=HN.o;omega) hx
      rwa [hkh,HVR.o]at this
     have HK:=qH hKP;have HKV:=qH (a3 hka hkw hkh);have HVV:=qH (a3 aFn hv24 uU);have HI2:=qH hI2;have aHR:N2<=24:=by omega
     have Zu:=qH hN2;obtain⟨a5,c5,h5,-,-⟩:=HI.o.st.open HSL.o;have lF:=qH (a2 hI2.md HI.o.md.size);subst hka hkw hkh;clear m2 H20 HI k0 k1 hKP hI2 hd hv aFn hv24 uU hk hN2;go_wp2_with fail;have HD0:Hd (DI w (w2.heap.size+1) (.slice b1 N2 d1) (.slice b2 NW d2) (.slice b3 N2 d3) aH k [] u5 ss ((w2.alloc (.cells #[.slice b1 N2 d1,.slice b2 NW d2,.slice b3 N2 d3] 83)).alloc (.cells #[.slice b1 N2 d1,.slice b2 NW d2,.slice b3 N2 d3,aH] 86))∧aG ((w2.alloc (.cells #[.slice b1 N2 d1,.slice b2 NW d2,.slice b3 N2 d3] 83)).alloc (.cells #[.slice b1 N2 d1,.slice b2 NW d2,.slice b3 N2 d3,aH] 86)) w2.heap.size [.slice b1 N2 d1,.slice b2 NW d2,.slice b3 N2 d3] 83):=by
      have m3:Mod No w2 ((w2.alloc (.cells #[.slice b1 N2 d1,.slice b2 NW d2,.slice b3 N2 d3] 83)).alloc (.cells #[.slice b1 N2 d1,.slice b2 NW d2,.slice b3 N2 d3,aH] 86)):=((Mod.refl _ _).alloc _).alloc _;exact⟨⟨HI2.o.res.mod m3 (fun x=>x),fE w2 _ _,HK.o.ah.no m3,HK.o.wo.no m3,HK.o.hi.no m3,Row.nil _ _,HI2.o.st.no m3,HI2.o.md.no m3,(fun g hg=>by cases hg),by have:=HI2.o.res.lt;omega⟩,gq w2 _ _⟩
     generalize (w2.alloc (.cells #[.slice b1 N2 d1,.slice b2 NW d2,.slice b3 N2 d3] 83)).alloc (.cells #[.slice b1 N2 d1,.slice b2 NW d2,.slice b3 N2 d3,aH] 86)=W3 at HD0 ⊢;generalize w2.heap.size+1=V at HD0 ⊢;generalize w2.heap.size=Y at HD0 ⊢;have HU5:=qH h5;subst h5;clear HI2;go_loopg [57] N2 (fun gh v57 wr=>∃(j:Nat) (kd:Value),j<=N2∧gh=N2-j∧v57=I j∧DI w V (.slice b1 N2 d1) (.slice b2 NW d2) (.slice b3 N2 d3) kd k (d.take j) (.slice a5 i c5) ss wr∧aG wr Y [.slice b1 N2 d1,.slice b2 NW d2,.slice b3 N2 d3] 83)
     case atStart=>exact⟨0,aH,by omega,by omega,rfl,HD0.o.1,HD0.o.2⟩
     case round=>
      obtain⟨j,kd,hjn,hgj,rfl,hD,hY⟩:=hrel;have HD:=qH hD;have HY:=qH hY;clear HD0;have hdl:(d.take j).length=j:=by rw[length_take];have:=HDL.o;omega
      obtain⟨a6,c6,h6,-,-⟩:=hD.de.open hdl;by_cases hlj:j<N2
      ·obtain⟨x,hdx,hch⟩:=HDG.o j hlj;have y0:=hY.cell 0 rfl;have y1:=hY.cell 1 rfl;have y2:=hY.cell 2 rfl;have h21:=H21.o wr j x hD.md hD.st hD.hi hlj hch;have hji:(j:Int)<N2:=by omega
       have Y8:Hd (d.take j++[x]=d.take (j+1)):=qH <| by rw[take_add_one,hdx];rfl
       have aFo:=qH hdl;have HKD:=qH h6;clear hD hY hdl hch hdx h6;go_wp2_with fail;refine h21.mono ?_;rintro e w4 ⟨rfl,m4⟩;unfold dc;have HD4:=qH (HD.o.no m4);have HY4:=qH (HY.o.mod m4 (fun x=>x));clear h21 HD HY m4 y0 y1 y2;have k3:=HD4.o.vie.aS 3 rfl;rw[HKD.o]at k3;have aHS:=HD4.o.vie.lt;have hown:w4.ownsRow 0 145 2 (.slice a6 j c6) j ((d.take j).flatMap DeE.f):=by
        have h2:w4.ownsRow 0 145 2 kd (d.take j).length ((d.take j).flatMap DeE.f):=HD4.o.de
        rwa [aFo.o,HKD.o]at h2
       obtain⟨i0,af,hz0,hz1,hz2⟩:=info_parts aJN;obtain⟨X2,hX2⟩:=eX (⟨x.2.toArray⟩:ByteArray);have HX:Hd (DeE.f x=[I x.1,.string X2]):=by show DeE.f x=_;rw[hX2];rfl
       rw[<-hX2];clear hX2;generalize x.1=X1 at HX ⊢;have aHT:¬V=w4.heap.size:=by omega
       go_wp2_with (at_builtin;refine wpList_append_lies _ rfl _ _ 84 rfl 0 145 i0 _ 2 24 underlying84 af hz0 hz1 hz2 rfl (by omega) (.slice a6 j c6) j ((d.take j).flatMap DeE.f) rfl ((hown.alloc _).alloc _) ⟨w4.heap.size+1,0,none⟩ 1 1 [I X1,.string X2] rfl rfl (World.news_of_block (cs:=#[I X1,.string X2]) (t:=145) (fr:=(0,0)) (fE w4 _ _)) (by intro u hu;simp at hu;rcases hu with rfl | rfl <;> rfl) (by omega) (by unfold maxLen;omega) (by omega) (by simp) (w4.heap.size+2) (by simp) ?_);intro gg cap2 w5 hown5 hgrow hat fJ;have hr5:Row DeE w5 (Jn gg (j+1) cap2) (d.take (j+1)):=by rw[<-Y8.o];exact jq aFo.o HX.o.symm hown5
       have hm5:Mod No w4 ((w4.alloc (.cells #[I X1,.string X2] 145)).alloc (.cells #[I X1,.string X2] 145)):=((Mod.refl _ _).alloc _).alloc _;have hD5:=HD4.o.no hm5;have hf5:aN ((w4.alloc (.cells #[I X1,.string X2] 145)).alloc (.cells #[I X1,.string X2] 145)) kd (Jn gg (j+1) cap2):=gW (H:=w4.heap.size+2) (by rw[HKD.o];exact hat) (by simp);have hV5:=hD5.vie.grown hgrow (fun e=>hD5.vie.apart hD5.de (by decide) (by rw[HKD.o];exact e.symm));have HD6:=qH (hD5.more (by rw[HKD.o];exact hgrow) hr5 hf5);have hY5:=((HY4.o).mod hm5 (fun x=>x)).grown hgrow (fun e=>((HY4.o).mod hm5 (fun x=>x)).apart hD5.de (by decide) (by rw[HKD.o];exact e.symm));have hYV:=hY5.diff hV5 (by decide);have HY6:Hd (aG (w5.setCell (J V 3) (Jn gg (j+1) cap2)) Y [.slice b1 N2 d1,.slice b2 NW d2,.slice b3 N2 d3] 83):=hY5.other (a:=J V 3) hYV _;have v3:=hV5.cell 3 rfl;rw[HKD.o]at v3;have g3:=hV5.free 3;clear hr5 hm5 hD5 hf5 hV5 hY5 hown5 hgrow hat fJ hown af hz0 hz1 hz2 k3;go_wp2;go_roundg (N2-(j+1))
       case measure=>omega
       case rel=>exact⟨j+1,_,by omega,rfl,by go_num,HD6.o,HY6.o⟩
      ·obtain rfl:j=N2:=by omega
       have HTD:Hd (d.take j=d):=take_of_length_le (by have:=HDL.o;omega);have v0:=hD.vie.cell 0 rfl;have v1:=hD.vie.cell 1 rfl;have v2:=hD.vie.cell 2 rfl;have v3:=hD.vie.cell 3 rfl;rw[h6]at v3;have z0:=hD.res.cell 0 rfl;have z1:=hD.res.cell 1 rfl;have z2:=hD.res.cell 2 rfl;have z3:=hD.res.cell 3 rfl;have f0:=hD.res.free 0;have f1:=hD.res.free 1;have f2:=hD.res.free 2;have f3:=hD.res.free 3;have HKD:=qH h6;clear hD hY hdl h6;go_wp2;refine bodyPost_ret (v:=.tuple #[.agg #[.slice b1 j d1,.slice b2 NW d2,.slice b3 j d3,.slice a6 j c6],.bool true]) (by simp[results,results32,go_sem,z0,z1,z2,z3]) rfl ?_;have DY:Mod (fun q=>q=w.heap.size) wr ((((wr.setCell (J w.heap.size 0) (.slice b1 j d1)).setCell (J w.heap.size 1) (.slice b2 NW d2)).setCell (J w.heap.size 2) (.slice b3 j d3)).setCell (J w.heap.size 3) (.slice a6 j c6)):=((((Mod.refl (fun q=>q=w.heap.size) wr).setCell (a:=J w.heap.size 0) (fun _=>rfl) _).setCell (a:=J w.heap.size 1) (fun _=>rfl) _).setCell (a:=J w.heap.size 2) (fun _=>rfl) _).setCell (a:=J w.heap.size 3) (fun _=>rfl) _;have hw:=lF.o.2;refine⟨HD.o.md.trans' DY (fun q hq e=>by omega),_,_,_,kd,by rw[HKD.o],⟨HVV.o.1,⟨HK.o.ok.six,HK.o.ok.len,HK.o.ok.pos,HK.o.ok.wl⟩,HVV.o.2.1,HVV.o.2.2,HD.o.ah.mod DY (fun g hg e=>HD.o.res.apart HD.o.ah (by decide) (by rw[hg,e])),HD.o.wo.mod DY (fun g hg e=>HD.o.res.apart HD.o.wo (by decide) (by rw[hg,e])),HD.o.hi.mod DY (fun g hg e=>HD.o.res.apart HD.o.hi (by decide) (by rw[hg,e])),?_,fun g hg=>by have:=HK.o.fa g hg;omega,fun g hg=>by have:=HK.o.fw g hg;omega,fun g hg=>by have:=HK.o.fh g hg;omega,HD.o.fd⟩⟩;have hde:=HD.o.de;rw[HTD.o]at hde;exact hde.mod DY (fun g hg e=>HD.o.res.apart HD.o.de (by decide) (by rw[hg,e]))
end Go.Proofs.YtoebidlghdidoaaGreatDoor
