import Derived.Test.YtoebidlghdidoaaGreatDoorBJ
set_option maxHeartbeats 8000000
set_option maxRecDepth 100000
namespace Go.Proofs.YtoebidlghdidoaaGreatDoor
open Tx Th M2 Tryz List
open Go.RowKit
attribute [local go_sem ↓] Go.wp_at_zero Go.wp_at_succ
structure Ks where
 (c0 c3 c4 c5 c13 c20 c21 c22 c23 c24 c25 c26 c27 c28 c29 c30 c31 c32 c33 c34 c35 c36 c37 c38 c39 c40 c41 c42 c43 c44 c45 c46 c47 c48 c49 c50 c51 c52 c53 c54 c55 c56 c168 aMa aMb c171 aMc c173 aMd c175 aMe aMf aMg aMh aMi aMj c182 c183 aMk aMl aMm aMn aMo aMp aMq aMr aMs c193 c194 aMt c196 aMu c198 aMv aMw c201 aMx c203 aMy aMz c206 aMA c208 aMB c210 aMC c212 c213 aMD aME aMF aMG:Value)
structure Vsz where
 (u6 u15 u16 u17 u18 u19 u57 u58 u59 u60 u61 u62 u63 u64 u65 u66 u67 u68 u69 u70 u71 u72 u73 u74 u75 u76 u77 u78 u79 u80 u81 u82 u83 u84 u85 u86 u87 u88 u89 u90 u91 u92 u93 u94 u95 u96 u97 u98 u99 aKz aKA aKB aKC aKD u105 aKE aKF aKG aKH aKI aKJ aKK aKL aKM aKN aKO aKP aKQ u119 aKR aKS aKT aKU u124 aKV aKW u127 aKX aKY aKZ u131 aK1 aK2 aK3 aK4 aK5 aK6 u138 u139 aK7 aK8 aK9 aLa aLb aLc aLd aLe aLf aLg aLh aLi u152 aLj u154 aLk aLl aLm aLn aMH aMI aMJ u162 aMK u164 aML aMM aMN:Value)
def RFr(M B n A:Nat)(T:ByteArray)(k:Ks)(u:Vsz)(S P O:ByteArray)(r i:Nat):Act:=⟨(k.c0::.string S::.string T::k.c3::k.c4::k.c5::u.u6::Jx M 0::Jx r 0::.string P::.string O::Jn B n n::I A::k.c13::I i::u.u15::u.u16::u.u17::u.u18::u.u19::k.c20::k.c21::k.c22::k.c23::k.c24::k.c25::k.c26::k.c27::k.c28::k.c29::k.c30::k.c31::k.c32::k.c33::k.c34::k.c35::k.c36::k.c37::k.c38::k.c39::k.c40::k.c41::k.c42::k.c43::k.c44::k.c45::k.c46::k.c47::k.c48::k.c49::k.c50::k.c51::k.c52::k.c53::k.c54::k.c55::k.c56::u.u57::u.u58::u.u59::u.u60::u.u61::u.u62::u.u63::u.u64::u.u65::u.u66::u.u67::u.u68::u.u69::u.u70::u.u71::u.u72::u.u73::u.u74::u.u75::u.u76::u.u77::u.u78::u.u79::u.u80::u.u81::u.u82::u.u83::u.u84::u.u85::u.u86::u.u87::u.u88::u.u89::u.u90::u.u91::u.u92::u.u93::u.u94::u.u95::u.u96::u.u97::u.u98::u.u99::u.aKz::u.aKA::u.aKB::u.aKC::u.aKD::u.u105::u.aKE::u.aKF::u.aKG::u.aKH::u.aKI::u.aKJ::u.aKK::u.aKL::u.aKM::u.aKN::u.aKO::u.aKP::u.aKQ::u.u119::u.aKR::u.aKS::u.aKT::u.aKU::u.u124::u.aKV::u.aKW::u.u127::u.aKX::u.aKY::u.aKZ::u.u131::u.aK1::u.aK2::u.aK3::u.aK4::u.aK5::u.aK6::u.u138::u.u139::u.aK7::u.aK8::u.aK9::u.aLa::u.aLb::u.aLc::u.aLd::u.aLe::u.aLf::u.aLg::u.aLh::u.aLi::u.u152::u.aLj::u.u154::u.aLk::u.aLl::u.aLm::u.aLn::u.aMH::u.aMI::u.aMJ::u.u162::u.aMK::u.u164::u.aML::u.aMM::u.aMN::k.c168::k.aMa::k.aMb::k.c171::k.aMc::k.c173::k.aMd::k.c175::k.aMe::k.aMf::k.aMg::k.aMh::k.aMi::k.aMj::k.c182::k.c183::k.aMk::k.aMl::k.aMm::k.aMn::k.aMo::k.aMp::k.aMq::k.aMr::k.aMs::k.c193::k.c194::k.aMt::k.c196::k.aMu::k.c198::k.aMv::k.aMw::k.c201::k.aMx::k.c203::k.aMy::k.aMz::k.c206::k.aMA::k.c208::k.aMB::k.c210::k.aMC::k.c212::k.c213::k.aMD::k.aME::k.aMF::k.aMG::[]).toArray,[]⟩
def aLK(aC:List iL)(sl:List (List UInt8)):Prop:=∀(j:Nat) (z:List UInt8),sl[j]?=some z->z=[]∨∃p out,z=46::p∧At aC p out j
structure U0(w:World)(m n B:Nat)(aC:List iL)(S P O:ByteArray)(r:Nat)(wr:World):Prop where
 ex:∃(p out rest:List UInt8) (k:Nat) (sl:List (List UInt8)),S=sb rest∧P=sb p∧O=sb out∧Th.Wb rest∧rest.length+p.length<=40∧At aC p out k∧DC wr r m k false∧Row NH wr (Jn B n n) sl∧sl.length=n∧aLK aC sl
 rw:w.heap.size<=r
 bw:w.heap.size<=B
 md:Mod No w wr
structure RC(w:World)(M m R c:Nat)(ps:List (Th.LR × Value))(l:List Th.LR)(aC:List iL)(v:M2.View)(n A:Nat):Prop where
 px:DL w M m R c ps l aC v
 hn:n=aC.length
 mx:∀(j:Nat) (q:iL),aC[j]?=some q->q.en.length<=A
 a8:A<=800
section
variable {w:World} {M m R c:Nat} {ps:List (Th.LR × Value)} {l:List Th.LR} {aC:List iL} {v:M2.View} {n A B:Nat} {T:ByteArray} {Z:Exit->Act->World->Prop} {k:Ks} {u:Vsz} {S P O:ByteArray} {r i:Nat} {wr:World}
theorem aF0(hC:RC w M m R c ps l aC v n A)(hI:U0 w m n B aC S P O r wr)(hi:i<=20)(aJK:∀(u:Vsz) (S P O:ByteArray) (r i:Nat) (wx:World),U0 w m n B aC S P O r wx->Z (.exit 0) (RFr M B n A T k u S P O r i) wx)(aKj:i<20->∀(u:Vsz) (S P O:ByteArray) (r:Nat) (wx:World),U0 w m n B aC S P O r wx->Z .normal (RFr M B n A T k u S P O r (i+1)) wx):Code.wp prog ((Tryz.f8.body.bind aIA).getD .skip) Z (RFr M B n A T k u S P O r i) wr:=by
 have HEX:=qH aJK;have HNO:=qH aKj;clear aJK aKj;conv=>arg 2;whnf
 cases u;cases k;unfold RFr
 dsimp only
 by_cases hgo:i<=T.size∧i<20
 ·have h1:(i:Int)<=T.size:=by omega
  have h2:(i:Int)<20:=by omega
  obtain⟨p,out,rest,kk,sl,hS,hP,hO,hwb,hlen,hAt,hRn,hrow,hsl,hst⟩:=hI.ex;have hSs:S.size=rest.length:=by rw[hS,ai]
  have hpx:=hC.px.no hI.md;obtain⟨N,hN⟩:=eX (if h:i<T.size then min S.size (T[i].toNat%4) else S.size);have hNS:N<=S.size:=by rw[hN];split <;> omega
  obtain⟨F,hF⟩:=eX (S.extract 0 N);obtain⟨S2,hS2⟩:=eX (S.extract N S.size);have hF2:F=sb (rest.take N):=by rw[hF,hS,aB0]
  have hS3:S2=sb (rest.drop N):=by
   rw[hS2,hS,ai];apply ByteArray.ext;simp[sb];exact take_of_length_le (by simp)
  obtain⟨o2,ho2⟩:=eX ((sQ aC kk (ak (rest.take N))).1);obtain⟨k2,hk2⟩:=eX ((sQ aC kk (ak (rest.take N))).2);have hwt:Th.Wb (rest.take N):=fun c hc=>hwb c (mem_of_mem_take hc)
  have hAt2:At aC (p++rest.take N) (out++o2) k2:=by
   refine⟨nO hAt.wb hwt,by rw[length_append,length_take];omega,?_⟩;rw[gQ,YR,hAt.go,ho2,hk2]
  have aLS:=hAt2.lt hpx.fx;have hol:=hpx.aLH hAt2;obtain⟨p2,hp2⟩:=eX (p++rest.take N);obtain⟨t2,ht2⟩:=eX (out++o2);obtain⟨s2,hs2⟩:=eX (rest.drop N);have hws2:Th.Wb s2:=by rw[hs2];exact fun c hc=>hwb c (mem_of_mem_drop hc)
  have aL2:s2.length+p2.length<=40:=by rw[hs2,hp2,length_append,length_take,length_drop];omega
  have HFd:=qH (aLG wr r m kk aC v hpx.vf hpx.fx hRn hpx.mc (hAt.lt hpx.fx) (rest.take N) hwt (by rw[length_take];omega));rw[<-ho2,<-hk2]at HFd;obtain⟨OOz,hOO⟩:=eX (⟨o2.toArray⟩:ByteArray);obtain⟨P2,hP2⟩:=eX (P++F);obtain⟨O2,hO2⟩:=eX (O++OOz);have hP3:P2=sb (p++rest.take N):=by rw[hP2,hP,hF2,dm]
  have hO3:O2=sb (out++o2):=by rw[hO2,hO,hOO];exact dm _ _
  rw[<-hOO,show (⟨(rest.take N).toArray⟩:ByteArray)=F from hF2.symm]at HFd;have x1:=hF.symm;have x2:=hS2.symm;have y1:=hP2.symm;have y2:=hO2.symm;have zc1:¬9223372036854775807<P.size+F.size:=by
   rw[hP,hF2,ai,ai,length_take];omega
  have zc2:¬9223372036854775807<O.size+OOz.size:=by
   have:OOz.size=o2.length:=by rw[hOO,aZ]
   have:=hol.1;rw[length_append]at this;rw[hO,ai];omega
  have hNi:(N:Int)<=S.size:=by omega
  rw[<-hp2,<-ht2]at hAt2;rw[<-hp2]at hP3;rw[<-ht2]at hO3;rw[<-hs2]at hS3;have HC:=qH hC;have HI:=qH hI;have HA2:=qH (And.intro hAt2 (And.intro hP3 (And.intro hO3 (And.intro hS3 (And.intro hrow (And.intro hsl (And.intro hst (And.intro hws2 (And.intro aL2 (And.intro hRn hpx))))))))));clear hS hP hO hwb hlen hAt hRn hrow hsl hst hpx hF hS2 hF2 hS3 ho2 hk2 hwt hAt2 hOO hP2 hO2 hP3 hO3 hSs hC hI hol hp2 ht2 hs2 hws2 aL2;by_cases hti:i<T.size
  case' pos=>
   have aL3:(i:Int)<T.size:=by omega
   have h256:=T[i].toNat_lt;have hmin:min (S.size:Int) ((T[i].toNat:Int)%4)=(N:Int):=by rw[hN,dif_pos hti];omega
   clear hN;go_wp2_with fail;clear hmin
  case' neg=>
   have aL3:¬(i:Int)<T.size:=by omega
   obtain rfl:N=S.size:=by rw[hN,dif_neg hti]
   have x2e:ByteArray.empty=S2:=by rw[<-x2];simp
   clear hN;go_wp2_with fail;clear aL3
  all_goals
   refine HFd.o.mono ?_;rintro e w2 ⟨rfl,hR2,hm2⟩;obtain⟨hAt2,hP3,hO3,hS3,hrow,hsl,hst,hwb,hlen,hRn,hpx⟩:=HA2.o;have aLW:=hpx.run hRn hm2;have hrow2:=hrow.mod hm2 (fun g hg e=>hrow.blk hRn (by decide) (by rw[hg,e]));have lF:=qH (HI.o.md.trans' hm2 (fun q hq e=>by have:=HI.o.rw;omega));have HAT:=qH (aLR aLW hR2 hAt2);rw[<-hP3,<-hO3]at HAT;obtain⟨E,hE⟩:=eX (⟨(I4 aC k2).en.toArray⟩:ByteArray);have hEA:¬(A:Int)<E.size:=by
    have hq:=bG aLS;have:=HC.o.mx k2 _ hq;rw[<-oz hq]at this;rw[hE,aZ];omega
   have HPE:Hd (∀wx rr cc,lC wx m aC->DC wx rr m k2 cc->J1 21 #[Jx rr 0] wx fun e w'=>e=.returned (.string E)∧∃n,w'=wx.drewN n):=fun wx rr cc hm hr=>by rw[hE];exact dM hr hm aLS
   have HR2:=qH (And.intro hR2 (And.intro hrow2 (And.intro aLW (And.intro hAt2 (And.intro hP3 (And.intro hO3 (And.intro hS3 (And.intro hsl (And.intro hst (And.intro hwb hlen))))))))));clear hR2 hm2 hAt2 hP3 hO3 hS3 hrow hsl hst hwb hlen hRn hpx aLW hrow2 hE HA2 HFd;go_wp2_with fail;refine HAT.o.mono ?_;rintro e w3 ⟨rfl,m3⟩;have Aa:=qH m3;clear m3 HAT x1 x2 y1 y2 zc1 zc2;go_wp2_with fail;refine(HPE.o _ _ _ (HR2.o.2.2.1.mc.no Aa.o) (HR2.o.1.mod Aa.o (fun x=>x))).mono ?_;rintro e w4 ⟨rfl,n4,rfl⟩;have HM4:=qH (Aa.o.drewN n4);generalize w3.drewN n4=w4 at HM4 ⊢;clear Aa;go_wp2_with fail;refine(aBe (HR2.o.1.mod HM4.o (fun x=>x))).mono ?_;rintro e w5 ⟨rfl,rfl⟩;have aLT:=HR2.o.2.2.1.no HM4.o;have O4:=HR2.o.2.1.no HM4.o;have aLL:DC w5 r m k2 false:=HR2.o.1.mod HM4.o (fun x=>x);have hm5:=lF.o.no HM4.o;have hsl:=HR2.o.2.2.2.2.2.2.2.1;have hst:=HR2.o.2.2.2.2.2.2.2.2.1;have aMR:k2<n:=by rw[HC.o.hn];exact aLS
   have q1:¬(k2:Int)<0:=by omega
   have q2:¬(n:Int)<=k2:=by omega
   have q3:(k2:Int)<n:=by omega
   obtain⟨z,hz⟩:∃z,sl[k2]?=some z:=⟨sl[k2]'(by omega),bG _⟩;obtain⟨ZB,dw⟩:=eX (sb z);have cz:w5.cell? (J B k2)=some (.string ZB):=by rw[dw];exact NH.cell O4 hz
   have fz:=O4.free k2;have HCN:=qH (And.intro hi HC.o);by_cases hze:z=[]
   case' pos=>
    have hAt2:=HR2.o.2.2.2.1;have hP3:=HR2.o.2.2.2.2.1;have hem:ZB.toList.isEmpty=true:=by rw[toList_data,dw,hze];rfl
    obtain⟨Q,hQ⟩:=eX ((⟨#[46]⟩:ByteArray)++P2);have hQ2:Q=sb (46::p2):=by rw[hQ,hP3,show (⟨#[46]⟩:ByteArray)=sb [46] from rfl,dm];rfl
    have hQs:Q.size=P2.size+1:=by rw[hQ2,hP3,ai,ai];rfl
    have hPs:P2.size<=100:=by rw[hP3,ai];exact hAt2.len
    have y3:=hQ.symm;have zc3:¬9223372036854775807<1+P2.size:=by omega
    have x3:Q.extract 1 Q.size=P2:=by rw[hQ2,hP3];exact DW [46] p2
    have q5:(1:Int)<=(Q.size:Int):=by omega
    have hm6:Mod No w (w5.setCell (J B k2) (.string Q)):=hm5.setCell (a:=J B k2) (fun h=>absurd h (by have:=HI.o.bw;show ¬B<w.heap.size;omega)) _;have aLM:Row NH (w5.setCell (J B k2) (.string Q)) (Jn B n n) (sl.set k2 (46::p2)):=by
     have:=O4.put k2 0 hz (x':=46::p2) (u:=.string Q) (by decide) (by rw[hQ2];rfl)
     rwa [show k2*NH.c+0=k2 by show k2*1+0=k2;omega]at this
    have hBr:r≠B:=fun e=>O4.blk aLL (by decide) (by rw[e];rfl)
    have PO:Hd (DL (w5.setCell (J B k2) (.string Q)) M m R c ps l aC v∧DC (w5.setCell (J B k2) (.string Q)) r m k2 false∧(∃sl',Row NH (w5.setCell (J B k2) (.string Q)) (Jn B n n) sl'∧sl'.length=n∧aLK aC sl')∧Mod No w (w5.setCell (J B k2) (.string Q))):=by
     refine⟨HC.o.px.no hm6,aG.other aLL (a:=J B k2) hBr _,⟨_,aLM,by rw[length_set];exact hsl,fun j y hy=>?_⟩,hm6⟩;by_cases e:k2=j
     ·subst e;rw[getElem?_set_self (bU hz).1]at hy;cases hy;exact Or.inr ⟨p2,t2,rfl,hAt2⟩
     ·rw[List.getElem?_set_ne e]at hy;exact hst j y hy
    have HAL:=qH (alike_any PO.o.1 hAt2 hAt2);rw[<-hP3]at HAL;have cz6:(w5.setCell (J B k2) (.string Q)).cell? (J B k2)=some (.string Q):=by
     have:=NH.cell aLM (getElem?_set_self (bU hz).1);rw[<-hQ2]at this;exact this
    clear hAt2 hQ hQ2 hP3 dw hz hze aLT O4 aLL hm5 hsl hst hQs hm6 aLM hBr;go_wp2_with fail;clear cz6 y3 x3 zc3;generalize w5.setCell (J B k2) (.string Q)=w6 at PO HAL ⊢
   case' neg=>
    obtain⟨p0,t0,hz0,aL4⟩:=(hst k2 z hz).resolve_left hze;have hP3:=HR2.o.2.2.2.2.1;obtain⟨P0,hP0⟩:=eX (sb p0);have hem:ZB.toList.isEmpty=false:=by rw[toList_data,dw,hz0];rfl
    have x3:ZB.extract 1 ZB.size=P0:=by rw[dw,hz0,hP0];exact DW [46] p0
    have q5:(1:Int)<=(ZB.size:Int):=by
     have:ZB.size=p0.length+1:=by rw[dw,hz0,ai];rfl
     omega
    have PO:Hd (DL w5 M m R c ps l aC v∧DC w5 r m k2 false∧(∃sl',Row NH w5 (Jn B n n) sl'∧sl'.length=n∧aLK aC sl')∧Mod No w w5):=⟨aLT,aLL,⟨sl,O4,hsl,hst⟩,hm5⟩;have HAL:=qH (alike_any aLT aL4 HR2.o.2.2.2.1);rw[<-hP0,<-hP3]at HAL;clear hP3 hP0 dw hz hze hz0 aL4 aLT O4 aLL hm5 hsl hst;go_wp2_with fail;clear x3;generalize w5=w6 at PO HAL ⊢
   all_goals
    refine HAL.o.mono ?_;rintro e w7 ⟨rfl,m7⟩;have xJ:Hd (DL w7 M m R c ps l aC v∧DC w7 r m k2 false∧(∃sl',Row NH w7 (Jn B n n) sl'∧sl'.length=n∧aLK aC sl')∧Mod No w w7):=by
     obtain⟨h1,h2,⟨sl',h3,h4,h5⟩,h6⟩:=PO.o;exact⟨h1.no m7,h2.mod m7 (fun x=>x),⟨sl',h3.no m7,h4,h5⟩,h6.no m7⟩
    have HRS:=qH (jh (k:=k2) xJ.o.1.mc aLS);have k0:=xJ.o.1.blk.cell 0 rfl;clear HAL PO m7;go_wp2_with fail;refine HRS.o.mono ?_;rintro e w8 ⟨⟨r8,rfl,hr8,aL5⟩,m8⟩;have UQ:Hd (DL w8 M m R c ps l aC v∧DC w8 r m k2 false∧(∃sl',Row NH w8 (Jn B n n) sl'∧sl'.length=n∧aLK aC sl')∧Mod No w w8):=by
     obtain⟨h1,h2,⟨sl',h3,h4,h5⟩,h6⟩:=xJ.o;exact⟨h1.no m8,h2.mod m8 (fun x=>x),⟨sl',h3.no m8,h4,h5⟩,h6.no m8⟩
    have HR8:=qH (a2 aL5 (Nat.le_trans xJ.o.2.2.2.size hr8));have hcmp:(E.toList==E.toList)=true:=beq_self_eq_true _;clear m8 aL5 hr8 xJ HRS k0;go_wp2_with fail;refine(HPE.o _ _ _ UQ.o.1.mc HR8.o.1).mono ?_;rintro e w9 ⟨rfl,n9,rfl⟩;have HM9:=qH ((Mod.refl No w8).drewN n9);generalize w8.drewN n9=w9 at HM9 ⊢;go_wp2_with fail;refine(HPE.o _ _ _ (UQ.o.1.mc.no HM9.o) (UQ.o.2.1.mod HM9.o (fun x=>x))).mono ?_;rintro e w10 ⟨rfl,n10,rfl⟩;have aLA:=qH (HM9.o.drewN n10);generalize w9.drewN n10=w10 at aLA ⊢;have ny:Hd (∀rr,(rr=r∨rr=r8)->U0 w m n B aC S2 P2 O2 rr w10):=fun rr hrr=>by
     obtain⟨-,-,-,hAt2,hP3,hO3,hS3,-,-,hwb,hlen⟩:=HR2.o;obtain⟨-,h2,⟨sl',h3,h4,h5⟩,h6⟩:=UQ.o;have hR:DC w10 rr m k2 false∧w.heap.size<=rr:=by
      rcases hrr with rfl | rfl
      ·exact⟨h2.mod aLA.o (fun x=>x),HI.o.rw⟩
      ·exact⟨HR8.o.1.mod aLA.o (fun x=>x),HR8.o.2⟩
     exact⟨⟨p2,t2,s2,k2,sl',hS3,hP3,hO3,hwb,hlen,hAt2,hR.1,h3.no aLA.o,h4,h5⟩,hR.2,HI.o.bw,h6.no aLA.o⟩
    clear HM9 aLA HPE;by_cases hod:i%2=1
    ·have aMO:((i:Int)%2==1)=true:=by rw[beq_iff_eq];omega
     go_wp2;rw[show (i:Int)+1=((i+1:Nat):Int) from rfl];exact HNO.o hgo.2 ⟨_,_,_,_,_,_,_,_,_,_,_,_,_,_,_,_,_,_,_,_,_,_,_,_,_,_,_,_,_,_,_,_,_,_,_,_,_,_,_,_,_,_,_,_,_,_,_,_,_,_,_,_,_,_,_,_,_,_,_,_,_,_,_,_,_,_,_,_,_,_,_,_,_,_,_,_,_,_,_,_,_,_,_,_,_,_,_,_,_,_,_,_,_,_,_,_,_,_,_,_,_,_,_,_,_,_,_,_,_,_,_,_,_,_,_,_,_⟩ S2 P2 O2 r8 w10 (ny.o r8 (Or.inr rfl))
    ·have aMO:((i:Int)%2==1)=false:=by rw[beq_eq_false_iff_ne];omega
     go_wp2;rw[show (i:Int)+1=((i+1:Nat):Int) from rfl];exact HNO.o hgo.2 ⟨_,_,_,_,_,_,_,_,_,_,_,_,_,_,_,_,_,_,_,_,_,_,_,_,_,_,_,_,_,_,_,_,_,_,_,_,_,_,_,_,_,_,_,_,_,_,_,_,_,_,_,_,_,_,_,_,_,_,_,_,_,_,_,_,_,_,_,_,_,_,_,_,_,_,_,_,_,_,_,_,_,_,_,_,_,_,_,_,_,_,_,_,_,_,_,_,_,_,_,_,_,_,_,_,_,_,_,_,_,_,_,_,_,_,_,_,_⟩ S2 P2 O2 r w10 (ny.o r (Or.inl rfl))
 ·have HI:=qH hI;clear hI hC;by_cases h1:i<=T.size
  ·have h1i:(i:Int)<=T.size:=by omega
   have h2:¬(i:Int)<20:=by omega
   go_wp2;exact HEX.o ⟨_,_,_,_,_,_,_,_,_,_,_,_,_,_,_,_,_,_,_,_,_,_,_,_,_,_,_,_,_,_,_,_,_,_,_,_,_,_,_,_,_,_,_,_,_,_,_,_,_,_,_,_,_,_,_,_,_,_,_,_,_,_,_,_,_,_,_,_,_,_,_,_,_,_,_,_,_,_,_,_,_,_,_,_,_,_,_,_,_,_,_,_,_,_,_,_,_,_,_,_,_,_,_,_,_,_,_,_,_,_,_,_,_,_,_,_,_⟩ S P O r i wr HI.o
  ·have h1i:¬(i:Int)<=T.size:=by omega
   go_wp2;exact HEX.o ⟨_,_,_,_,_,_,_,_,_,_,_,_,_,_,_,_,_,_,_,_,_,_,_,_,_,_,_,_,_,_,_,_,_,_,_,_,_,_,_,_,_,_,_,_,_,_,_,_,_,_,_,_,_,_,_,_,_,_,_,_,_,_,_,_,_,_,_,_,_,_,_,_,_,_,_,_,_,_,_,_,_,_,_,_,_,_,_,_,_,_,_,_,_,_,_,_,_,_,_,_,_,_,_,_,_,_,_,_,_,_,_,_,_,_,_,_,_⟩ S P O r i wr HI.o
theorem aLN(hC:RC w M m R c ps l aC v n A)(hI:U0 w m n B aC S P O r wr)(aJK:∀(u:Vsz) (S P O:ByteArray) (r i:Nat) (wx:World),U0 w m n B aC S P O r wx->Z (.exit 0) (RFr M B n A T k u S P O r i) wx):Code.wp prog (Code.loop ((Tryz.f8.body.bind aIA).getD .skip)) Z (RFr M B n A T k u S P O r 0) wr:=by
 conv=>arg 2;arg 1;whnf
 cases u;cases k;unfold RFr
 dsimp only
 go_loopg [1,8,9,10,14] 20 (fun gh s1 s8 s9 s10 s14 wx=>∃(i r:Nat) (S P O:ByteArray),gh=20-i∧i<=20∧s1=.string S∧s8=Jx r 0∧s9=.string P∧s10=.string O∧s14=I i∧U0 w m n B aC S P O r wx)
 case atStart=>exact⟨0,r,S,P,O,rfl,by omega,rfl,rfl,rfl,rfl,rfl,hI⟩
 case round=>
  rename_i hJ hK;obtain⟨i,r,S,P,O,rfl,hi,rfl,rfl,rfl,rfl,rfl,hI⟩:=hrel;refine aF0 hC (Z:=Exit.then _ Z) (u:=⟨_,_,_,_,_,_,_,_,_,_,_,_,_,_,_,_,_,_,_,_,_,_,_,_,_,_,_,_,_,_,_,_,_,_,_,_,_,_,_,_,_,_,_,_,_,_,_,_,_,_,_,_,_,_,_,_,_,_,_,_,_,_,_,_,_,_,_,_,_,_,_,_,_,_,_,_,_,_,_,_,_,_,_,_,_,_,_,_,_,_,_,_,_,_,_,_,_,_,_,_,_,_,_,_,_,_,_,_,_,_,_,_,_,_,_,_,_⟩) hI hi aJK ?_;intro aMS u S P O r wx hI2;refine hK _ _ ?_;refine Handed.intro (20-(i+1)) (by omega) ?_;refine hJ _ _ _ ?_;exact⟨_,_,_,_,_,_,_,_,_,_,_,_,_,_,_,_,_,_,_,_,_,_,_,_,_,_,_,_,_,_,_,_,_,_,_,_,_,_,_,_,_,_,_,_,_,_,_,_,_,_,_,_,_,_,_,_,_,_,_,_,_,_,_,_,_,_,_,_,_,_,_,_,_,_,_,_,_,_,_,_,_,_,_,_,_,_,_,_,_,_,_,_,_,_,_,_,_,_,_,_,_,_,_,_,_,_,_,_,_,_,_,_,_,_,_,_,_,_,_,_,_,_,⟨i+1,r,S,P,O,rfl,by omega,rfl,rfl,rfl,rfl,by go_num,hI2⟩,rfl⟩
end
theorem aLB(n:Nat)(hn:n<=2000)(w:World):(Instr.makeSlice 56 (I n) (I n)).run prog w=.ok (Jn w.heap.size n n) (w.alloc (.cells (replicate n (.string ⟨#[]⟩)).toArray 9)):=by
 have e:madeCells #[.string ⟨#[]⟩] n=(replicate n (.string ⟨#[]⟩)).toArray:=by
  apply Array.ext';simp[madeCells,Nat.mod_one];exact eq_replicate_iff.2 ⟨by simp,fun b hb=>by obtain⟨_,_,rfl⟩:=mem_map.1 hb;rfl⟩
 rw[<-e];exact run_make_row' 56 9 (.string ⟨#[]⟩) 16 underlying56 aIG rfl .i64 .i64 n (by omega) (by omega) w
theorem aLU(s:List UInt8):Th.Wb (jF 4 s):=fun c hc=>by
 unfold jF at hc;obtain⟨d,-,rfl⟩:=mem_map.1 hc;exact aBV (Nat.mod_lt _ (by omega))
theorem aLO{w:World}{b M m R c:Nat}{vl tx ov:Value}{ps:List (Th.LR × Value)}{l:List Th.LR}{aC:List iL}{v:M2.View}(hb:aG w b [vl,tx,Jx M 0,ov] 31)(h:DL w M m R c ps l aC v)(s T:ByteArray)(hs:s.size<=1048576):J1 8 #[Jx b 0,.string s,.string T] w fun e w'=>e=.returned (.bool true)∧Mod No w w':=by
 obtain⟨n,hn⟩:=eX (aC.length);have h0:=h.fx.pos;have hl:=h.fx.le;obtain⟨N,hN⟩:=eX (min s.size 40);have hmin:min (s.size:Int) 40=(N:Int):=by rw[hN];omega
 have hNs:(N:Int)<=s.size:=by omega
 obtain⟨s4,hs4⟩:=eX (s.extract 0 N);have x1:=hs4.symm;have aMT:s4.size<=40:=by rw[hs4];simp[ByteArray.size_extract];omega
 have HWd:=qH (fun wx=>Wv s4 wx (by omega));obtain⟨rest,hrest⟩:=eX (jF 4 s4.data.toList);have hrw:Th.Wb rest:=by rw[hrest];exact aLU _
 have hrl:rest.length<=40:=by
  rw[hrest];unfold jF;rw[length_map];have:s4.data.toList.length=s4.size:=bK s4;omega
 rw[<-hrest]at HWd;obtain⟨S,hS⟩:=eX (sb rest);rw[<-hS]at HWd;have HPX:=qH h;have HB:Hd (∀wx,Mod No w wx->wx.cell? (J M 0)=some (Jx m 0)∧wx.cell? (J M 1)=some (Jn R ps.length c)):=fun wx hm=>by
  have g:=h.blk.mod hm (fun x=>x);exact⟨g.cell 0 rfl,g.cell 1 rfl⟩
 have HR:=qH (And.intro hS (And.intro hrw (And.intro hrl hn)));have b2:=hb.cell 2 rfl;have hmk:=aLB n (by omega);rw[<-hn]at h0 hl;clear hb h hS hrw hrl hrest hs4 hN hn;go_enter func8,ntmps8;go_wp2_with fail;refine(HWd.o _).mono ?_;rintro e w1 ⟨rfl,m1⟩;have DN:=qH m1;obtain⟨k0,-⟩:=HB.o w1 DN.o;clear m1 x1 hmin;go_wp2_with fail;refine(Us (HPX.o.mc.no DN.o) HPX.o.fx.pos).mono ?_;rintro e w2 ⟨⟨r,rfl,hr1,hRn⟩,m2⟩;have lF:=qH (DN.o.no m2);have HRn:=qH (a2 hRn (Nat.le_trans DN.o.size hr1));obtain⟨k0,-⟩:=HB.o w2 lF.o;clear hr1 hRn m2;go_wp2_with fail;refine(MZ _ m aC (HPX.o.mc.no lF.o)).mono ?_;rintro e w3 ⟨rfl,rfl⟩;rw[<-HR.o.2.2.2];have HW3:Hd (Row NH (w3.alloc (.cells (Array.replicate n (.string ⟨#[]⟩)) 9)) (Jn w3.heap.size n n) (replicate n [])∧Mod No w3 (w3.alloc (.cells (Array.replicate n (.string ⟨#[]⟩)) 9))∧w.heap.size<=w3.heap.size):=by
  refine⟨?_,(Mod.refl _ _).alloc _,lF.o.size⟩;have g:∀k,(replicate k ([]:List UInt8)).flatMap NH.f=replicate k (.string ⟨#[]⟩):=fun k=>by
   induction k with
   | zero=>rfl
   | succ k ih=>rw[replicate_succ,flatMap_cons,ih];rfl
  have hb:aG (w3.alloc (.cells (Array.replicate n (.string ⟨#[]⟩)) 9)) w3.heap.size ((replicate n ([]:List UInt8)).flatMap NH.f) 9:=by
   have e:Array.replicate n (Value.string ⟨#[]⟩)=((replicate n ([]:List UInt8)).flatMap NH.f).toArray:=by rw[g];simp
   rw[e];exact heap_alloc_new _ _
  have:=Row.of_block (E:=NH) hb (by simp;unfold maxLen;omega);simpa using this
 have k0':=fun o=>(HB.o _ (lF.o.alloc o)).1
 go_wp2_with fail;have HM4:=qH (lF.o.no HW3.o.2.1);have aLX:Hd (DC (w3.alloc (.cells (Array.replicate n (.string ⟨#[]⟩)) 9)) r m 0 false):=HRn.o.1.mod HW3.o.2.1 (fun x=>x);generalize w3.alloc (.cells (Array.replicate n (.string ⟨#[]⟩)) 9)=w4 at HW3 HM4 aLX ⊢;generalize w3.heap.size=B at HW3 ⊢;refine(TY _ m aC v HPX.o.vf HPX.o.fx (HPX.o.mc.no HM4.o)).mono ?_;rintro e w5 ⟨A,sw,rfl,hmx,hA8,m5⟩;have HM5:=qH (HM4.o.no m5);have HC:Hd (RC w M m R c ps l aC v n A):=⟨HPX.o,HR.o.2.2.2,hmx,hA8⟩;have HI:Hd (U0 w m n B aC S ⟨#[]⟩ ⟨#[]⟩ r w5):=by
  refine⟨⟨[],[],rest,0,replicate n [],HR.o.1,rfl,rfl,HR.o.2.1,by simpa using HR.o.2.2.1,⟨fun _ h=>(by cases h),Nat.zero_le _,rfl⟩,aLX.o.mod m5 (fun x=>x),HW3.o.1.no m5,by simp,fun j z hz=>Or.inl ?_⟩,HRn.o.2,HW3.o.2.2,HM5.o⟩;have:=iI hz;rw[mem_replicate]at this;exact this.2
 clear hmx m5 HW3 aLX HRn HM4 lF DN hmk k0 k0';go_wp2_with fail;refine aLN HC.o (k:=⟨_,_,_,_,_,_,_,_,_,_,_,_,_,_,_,_,_,_,_,_,_,_,_,_,_,_,_,_,_,_,_,_,_,_,_,_,_,_,_,_,_,_,_,_,_,_,_,_,_,_,_,_,_,_,_,_,_,_,_,_,_,_,_,_,_,_,_,_,_,_,_,_,_,_,_,_,_,_,_,_,_,_,_,_,_,_,_,_,_,_,_,_⟩) (u:=⟨_,_,_,_,_,_,_,_,_,_,_,_,_,_,_,_,_,_,_,_,_,_,_,_,_,_,_,_,_,_,_,_,_,_,_,_,_,_,_,_,_,_,_,_,_,_,_,_,_,_,_,_,_,_,_,_,_,_,_,_,_,_,_,_,_,_,_,_,_,_,_,_,_,_,_,_,_,_,_,_,_,_,_,_,_,_,_,_,_,_,_,_,_,_,_,_,_,_,_,_,_,_,_,_,_,_,_,_,_,_,_,_,_,_,_,_,_⟩) HI.o ?_;clear HI HM5 HR HWd;intro u S9z P O r9 i w6 hI;obtain⟨p,out,aMQ,k,sl,-,hP,hO,-,-,hAt,hRn,-,-,-⟩:=hI.ex;have hpx:=HPX.o.no hI.md;have hk:=hAt.lt hpx.fx;have hol:=hpx.aLH hAt;obtain⟨E,hE⟩:=eX (⟨(I4 aC k).en.toArray⟩:ByteArray);have HF1:=qH (aEH (⟨#[97,98,101]⟩:ByteArray) (by decide) (by decide) hRn);have HCl:=qH (aLF hRn hpx.mc hk);rw[<-hE]at HCl;obtain⟨Y,hY⟩:=eX (sb (out++(I4 aC k).en));have HRW:Hd (∀wx,DL wx M m R c ps l aC v->J1 26 #[Jn R ps.length c,.string P] wx fun e w'=>e=.returned (.string Y)∧Mod No wx w'):=fun wx hx=>by
  have:=hx.rw p hAt.wb (by have:=hAt.len;omega);have e:=hAt.run [];rw[append_nil]at e;rw[hP,hY];rw[e]at this;exact this
 have hcmp:((O++E).toList==Y.toList)=true:=by rw[hO,hE,hY];rw[show (⟨(I4 aC k).en.toArray⟩:ByteArray)=sb (I4 aC k).en from rfl,dm];exact beq_self_eq_true _
 have Lj:¬9223372036854775807<O.size+E.size:=by rw[hO,hE,ai,aZ];omega
 have HI:=qH (And.intro hI (And.intro hpx hRn));clear hI hpx hRn hAt hP hO hE hY hk hol;unfold RFr
 dsimp only
 go_wp2_with fail;refine HF1.o.mono ?_;rintro e w7 ⟨rfl,rfl⟩;go_wp2_with fail;refine HCl.o.mono ?_;rintro e w8 ⟨rfl,hR8,m8⟩;have aL6:=qH (HI.o.2.1.run HI.o.2.2 m8);have HM8:=qH (HI.o.1.md.trans' m8 (fun q hq e=>by have:=HI.o.1.rw;omega));have HC8:=qH (aEq hR8);have HF8:=qH (UZ (⟨#[97]⟩:ByteArray) hR8);have k1:=aL6.o.blk.cell 1 rfl;clear hR8 m8 HF1 HCl;go_wp2_with fail;refine HC8.o.mono ?_;rintro e w9 ⟨rfl,rfl⟩;go_wp2_with fail;refine HF8.o.mono ?_;rintro e w10 ⟨rfl,rfl⟩;go_wp2_with fail;refine(HRW.o _ aL6.o).mono ?_;rintro e w11 ⟨rfl,m11⟩;have aMP:=qH (HM8.o.no m11);clear m11;go_wp2;go_ret;exact⟨rfl,aMP.o⟩
theorem Xz(w:World)(v:Value)(os:List xY)(s t:ByteArray)(hA:SC w v os)(hos:os.length<=281474976710656)(hwf:∀o∈os,aDB o)(htab:Lib.TabIs prog w uI .u64 Lib.pow10Tab):J1 4 #[v,.string s,.string t] w fun e w'=>e=.returned (.bool true)∧Mod No w w':=by
 have HO:=qH (aDD YP w v os hA hos hwf);have HT:=qH (Lib.tabBelow_of_tabIs htab);obtain⟨a,cap,rfl⟩:=hA.sl;clear hA hos hwf htab;go_enter func4,ntmps4;go_wp2_with fail;refine HO.o.mono ?_;rintro e w1 ⟨m1,h1⟩;have DN:=qH m1;clear HO;rcases h1 with rfl | ⟨b,vl,ps,hbs,rfl,hB,hL,hps,hown⟩
 ·clear m1;go_wp2_with fail;go_ret;exact⟨rfl,DN.o⟩
 ·by_cases hs:s.size<=1048576
  ·have hsi:¬(1048576:Int)<(s.size:Int):=by omega
   by_cases ht:t.size<=1048576
   ·have hti:¬(1048576:Int)<(t.size:Int):=by omega
    have HK:=qH (aJc w1 w.heap.size b vl ps (kM os) hB hL hps (Vg os) (Og os) (HT.o.on DN.o.below) hbs DN.o.size);have HPS:=qH hps;clear m1 hB hL hps hown;go_wp2_with fail;refine HK.o.mono ?_;rintro e w2 ⟨rfl,m2,p,hp,aKx⟩;have lF:=qH (DN.o.trans' m2 (fun k hk e=>by omega));have c2:=hp.cell 2 rfl;rcases aKx with rfl | ⟨M,aC,rfl,hMd,hS,hl1,hl4⟩
    ·clear HK m2 hp;go_wp2_with fail;go_ret;exact⟨rfl,lF.o⟩
    ·obtain⟨m,R,c,h1,h2,h3⟩:=hMd;obtain⟨vv,hvf,hfx⟩:=hS.fx;have hpx:DL w2 M m R c ps (kM os) aC vv:=⟨h1,h2,h3,HPS.o,Vg os,hl1,hl4,hvf,hfx,hS.law⟩;have HR:=qH (aLO hp hpx s t hs);clear HK m2 hp h1 h2 h3 hvf hfx hS hpx;go_wp2_with fail;refine HR.o.mono ?_;rintro e w3 ⟨rfl,m3⟩;have Aa:=qH (lF.o.no m3);clear HR m3;go_wp2_with fail;go_ret;exact⟨rfl,Aa.o⟩
   ·have hti:(1048576:Int)<(t.size:Int):=by omega
    clear m1 hB hL hps hown;go_wp2_with fail;go_ret;exact⟨rfl,DN.o⟩
  ·have hsi:(1048576:Int)<(s.size:Int):=by omega
   clear m1 hB hL hps hown;go_wp2_with fail;go_ret;exact⟨rfl,DN.o⟩
end Go.Proofs.YtoebidlghdidoaaGreatDoor
