import Derived.Test.YtoebidlghdidoaaGreatDoorBI
set_option maxHeartbeats 3200000
set_option maxRecDepth 100000
namespace Go.Proofs.YtoebidlghdidoaaGreatDoor
open Tx Ld Th M2
open aI Tryz List
namespace Th
open M2 (View iL aT)
open aI (lG num)
def sQ(aC:List iL):Nat->List Nat->By × Nat
 | k,[]=>([],k)
 | k,l::z=>((I4 aC k).sd.getD l []++(sQ aC ((I4 aC k).nx.getD l 0) z).1,(sQ aC ((I4 aC k).nx.getD l 0) z).2)
theorem YL(aC:List iL):∀(z:List Nat) (k:Nat) (y:List Nat),kC aC k (z++y)=(sQ aC k z).1++kC aC (sQ aC k z).2 y
 | [],_,_=>rfl
 | l::z,k,y=>by
  rw[cons_append,rG,YL aC z,sQ,append_assoc]
theorem YR(aC:List iL):∀(z:List Nat) (k:Nat) (y:List Nat),sQ aC k (z++y)=((sQ aC k z).1++(sQ aC (sQ aC k z).2 y).1,(sQ aC (sQ aC k z).2 y).2)
 | [],_,_=>rfl
 | l::z,k,y=>by
  rw[cons_append,sQ,YR aC z,sQ,append_assoc]
theorem aLE{v:View}{aC:List iL}(h:MFx v aC):∀(z:List Nat) (k:Nat),k<aC.length->Wd z->(sQ aC k z).2<aC.length
 | [],_,hk,_=>hk
 | l::z,k,hk,hz=>by
  rw[sQ];refine aLE h z _ ?_ (jU hz);have hq:=bG hk;rw[oz hq];exact h.inn k _ l hq (hz l mem_cons_self)
end Th
section
open Go.RowKit
attribute [local go_sem ↓] Go.wp_at_zero Go.wp_at_succ
variable {w:World} {r m n t k M R c:Nat} {cs:List Value} {aC:List iL} {v:M2.View} {p out:List UInt8} {ps:List (Th.LR × Value)} {l:List Th.LR}
def DC(w:World)(r m k:Nat)(c:Bool):Prop:=aG w r [Jx m 0,I k,.bool c] 114
section
variable {w:World} {r m k:Nat} {c:Bool} {aC:List iL}
theorem UY(h:DC w r m k c):J1 48 #[Jx r 0] w fun e w'=>e=.returned (.bool true)∧w'=w:=by
 have c0:=h.cell 0 rfl;clear h;go_enter func48,ntmps48;go_wp2;go_ret;exact⟨rfl,rfl⟩
theorem di(h:DC w r m k c):J1 43 #[Jx r 0] w fun e w'=>e=.returned (.bool c)∧w'=w:=by
 have c2:=h.cell 2 rfl;have hh:=qH (UY h);clear h;go_enter func43,ntmps43;go_wp2_with fail;refine hh.o.mono ?_;rintro e w1 ⟨rfl,rfl⟩;go_wp2;go_ret;exact⟨rfl,rfl⟩
theorem aBe(h:DC w r m k c):J1 22 #[Jx r 0] w fun e w'=>e=.returned (I k)∧w'=w:=by
 have c1:=h.cell 1 rfl;clear h;go_enter func22,ntmps22;go_wp2;go_ret;exact⟨rfl,rfl⟩
theorem jh(hM:lC w m aC)(hk:k<aC.length):J1 24 #[Jx m 0,I k] w fun e w'=>(∃r,e=.returned (.tuple #[Jx r 0,I 0])∧w.heap.size<=r∧DC w' r m k false)∧Mod No w w':=by
 have h13:=qH (MZ w m aC hM);have h1:¬(k:Int)<0:=by omega
 have h2:¬(aC.length:Int)<=k:=by omega
 generalize aC.length=n at h13 h2;clear hM hk;go_enter func24,ntmps24;go_wp2_with fail;refine h13.o.mono ?_;rintro e w1 ⟨rfl,rfl⟩;go_wp2;go_ret2;exact⟨⟨_,rfl,dH _,heap_alloc_new _ _⟩,(Mod.refl _ _).alloc _⟩
theorem Us(hM:lC w m aC)(hk:0<aC.length):J1 17 #[Jx m 0] w fun e w'=>(∃r,e=.returned (Jx r 0)∧w.heap.size<=r∧DC w' r m 0 false)∧Mod No w w':=by
 have WR:=qH (jh (k:=0) hM hk);clear hM hk;go_enter func17,ntmps17;go_wp2_with fail;refine WR.o.mono ?_;rintro e w1 ⟨⟨r,rfl,h1,h2⟩,hm⟩;go_wp2;go_ret;exact⟨⟨r,rfl,h1,h2⟩,hm⟩
theorem dM(h:DC w r m k c)(hM:lC w m aC)(hk:k<aC.length):J1 21 #[Jx r 0] w fun e w'=>e=.returned (.string ⟨(I4 aC k).en.toArray⟩)∧∃n,w'=w.drewN n:=by
 have hq:=bG hk;obtain⟨v,hb,hr⟩:=hM;obtain⟨g,cap,rfl,-,-⟩:=hr.form (by omega);have a0:=h.cell 0 rfl;have a1:=h.cell 1 rfl;have b0:=hb.cell 0 rfl;have e0:w.cell? (J g (k*9))=some (.string ⟨(I4 aC k).en.toArray⟩):=by rw[oz hq];exact hr.cell k 0 hq rfl
 have hh:=qH (UY h);have hki:(k:Int)<aC.length:=by omega
 generalize (⟨(I4 aC k).en.toArray⟩:ByteArray)=E at e0;generalize aC.length=n at hki b0;clear h hb hr hq hk;go_enter func21,ntmps21;go_wp2_with fail;refine hh.o.mono ?_;rintro e w1 ⟨rfl,rfl⟩;go_wp2_with fail;go_quiet (fail);go_wp2;go_ret;exact⟨rfl,nq,rfl⟩
theorem aEq(h:DC w r m k true):J1 25 #[Jx r 0] w fun e w'=>e=.returned (.tuple #[.string ⟨#[]⟩,I 9])∧w'=w:=by
 have hh:=qH (di h);clear h;go_enter func25,ntmps25;go_wp2_with fail;refine hh.o.mono ?_;rintro e w1 ⟨rfl,rfl⟩;go_wp2;go_ret2;exact⟨rfl,rfl⟩
theorem aLF(h:DC w r m k false)(hM:lC w m aC)(hk:k<aC.length):J1 25 #[Jx r 0] w fun e w'=>e=.returned (.tuple #[.string ⟨(I4 aC k).en.toArray⟩,I 0])∧DC w' r m k true∧Mod (fun q=>q=r) w w':=by
 have hh:=qH (di h);have f2:=h.free 2;have hR:DC (w.setCell (J r 2) (.bool true)) r m k true:=h.set 2 _;have hms:Mod (fun q=>q=r) w (w.setCell (J r 2) (.bool true)):=Mod.setCell (S:=fun q=>q=r) (Mod.refl _ _) (a:=J r 2) (fun _=>rfl) _;have hM2:lC (w.setCell (J r 2) (.bool true)) m aC:=by
  obtain⟨v,h1,h2⟩:=hM;refine⟨v,h1.mod hms (fun e=>?_),h2.mod hms (fun g hg e=>h2.blk h (by decide) (by rw[hg,e]))⟩;subst e;have:=h1.symm.trans h;injection this with this;injection this with _ h2;exact absurd h2 (by decide)
 have hp:=qH (dM hR hM2 hk);have HR:=qH (And.intro hR hms);have c2:=h.cell 2 rfl;clear h hM hM2 hR hms;go_enter func25,ntmps25;go_wp2_with fail;refine hh.o.mono ?_;rintro e w1 ⟨rfl,rfl⟩;go_wp2_with fail;refine hp.o.mono ?_;rintro e w2 ⟨rfl,n,rfl⟩;go_wp2;go_ret2;exact⟨rfl,HR.o.1,HR.o.2.drewN n⟩
theorem aEG(s t:List UInt8)(w:World)(hp:t <+: s):J1 46 #[.string ⟨s.toArray⟩,.string ⟨t.toArray⟩] w fun e w'=>e=.returned (.bool true)∧w'=w:=by
 obtain⟨S,hS⟩:=eX (⟨s.toArray⟩:ByteArray);obtain⟨T,hT⟩:=eX (⟨t.toArray⟩:ByteArray);have hSs:S.size=s.length:=by rw[hS,aZ]
 have hTs:T.size=t.length:=by rw[hT,aZ]
 have hle:=hp.length_le;have h1:(T.size:Int)<=S.size:=by omega
 have hcmp:((S.extract 0 T.size).toList==T.toList)=true:=by
  rw[beq_iff_eq,toList_data,toList_data,hTs,hS,hT];show ((⟨s.toArray⟩:ByteArray).extract 0 t.length).data.toList=t;simp;exact List.prefix_iff_eq_take.1 hp ▸ rfl
 rw[<-hS,<-hT];clear hS hT hp hSs hTs hle;go_enter func46,ntmps46;go_wp2;go_ret;exact⟨rfl,rfl⟩
end
theorem aLV{w':World}(hM:lC w m aC)(h:aG w r cs 114)(hm:Mod (fun q=>q=r) w w'):lC w' m aC:=by
 obtain⟨v,h1,h2⟩:=hM;refine⟨v,h1.mod hm (fun e=>?_),h2.mod hm (fun g hg e=>h2.blk h (by decide) (by rw[hg,e]))⟩;subst e;have:=h1.symm.trans h;injection this with this;injection this with _ h2;exact absurd h2 (by decide)
theorem Dp(s:ByteArray)(w:World)(hs:s.size<=1000000000):J1 44 #[.string s] w fun e w'=>e=.returned (.bool (s.data.toList.all lG))∧w'=w:=by
 have hIS:=qH Aw;have HG:=qH fun i (h:i<s.size)=>Lib.data_getElem? s i h
 have HL:=qH (bK s);generalize s.data.toList=l at HG HL ⊢;go_enter func44,ntmps44;go_wp2_with fail;go_loopg [3] s.size (fun g ii wr=>∃i:Nat,i<=s.size∧g=s.size-i∧ii=I i∧(l.take i).all lG=true∧wr=w)
 case atStart=>exact⟨0,by omega,rfl,rfl,rfl,rfl⟩
 case round=>
  obtain⟨i,hi,hg,rfl,hall,rfl⟩:=hrel;by_cases hlt:i<s.size
  ·have hii:(i:Int)<s.size:=by omega
   have hx:=HG.o i hlt;generalize hc:s[i]=c at hx;have HX:=qH hx;have HA:=qH hall;have hcall:=qH (hIS.o c)
   cases hcl:lG c with
   | true=>
    rw[hcl]at hcall;have HA2:Hd ((l.take (i+1)).all lG=true):=qH <| by
     rw[take_add_one,HX.o,List.all_append,HA.o];simp[hcl]
    clear hx hall hcl;go_wp2_with fail;refine(hcall.o _).mono ?_;rintro e w1 ⟨rfl,rfl⟩;go_wp2;go_roundg (s.size-(i+1))
    case measure=>omega
    case rel=>exact⟨i+1,by omega,rfl,by go_num,HA2.o,rfl⟩
   | false=>
    rw[hcl]at hcall;have HF:Hd (l.all lG=false):=qH <| by
     rw[List.all_eq_false];exact⟨c,iI hx,by rw[hcl];decide⟩
    clear hx hall hcl;go_wp2_with fail;refine(hcall.o _).mono ?_;rintro e w1 ⟨rfl,rfl⟩;go_wp2;go_ret;exact⟨by rw[HF.o];rfl,rfl⟩
  ·obtain rfl:i=s.size:=by omega
   have HF:Hd (l.all lG=true):=by
    have h:=hall;rw[take_of_length_le (by have:=HL.o;omega)]at h;exact h
   have hn:¬(s.size:Int)<s.size:=by omega
   clear hall;go_wp2;go_ret;exact⟨by rw[HF.o];rfl,rfl⟩
section
variable {w:World} {r m k:Nat} {aC:List iL}
theorem UZ(z:ByteArray)(h:DC w r m k true):J1 19 #[Jx r 0,.string z] w fun e w'=>e=.returned (.tuple #[.string ⟨#[]⟩,I 9])∧w'=w:=by
 have hh:=qH (di h);clear h;go_enter func19,ntmps19;go_wp2_with fail;refine hh.o.mono ?_;rintro e w1 ⟨rfl,rfl⟩;go_wp2;go_ret2;exact⟨rfl,rfl⟩
theorem aEH(z:ByteArray)(hz:z.size<=1000000000)(hb:z.data.toList.all lG=false)(h:DC w r m k false):J1 19 #[Jx r 0,.string z] w fun e w'=>e=.returned (.tuple #[.string ⟨#[]⟩,I 8])∧w'=w:=by
 have hh:=qH (di h);have hi:=qH (Dp z w hz);rw[hb]at hi;clear h hb;go_enter func19,ntmps19;go_wp2_with fail;refine hh.o.mono ?_;rintro e w1 ⟨rfl,rfl⟩;go_wp2_with fail;refine hi.o.mono ?_;rintro e w1 ⟨rfl,rfl⟩;go_wp2;go_ret2;exact⟨rfl,rfl⟩
end
theorem aLP{base:Nat}{e:TypeId}{size:Nat}{v:Value}{xs:List Value}(h:w.ownsRow base e size v n xs){a:Addr}(ha:a.block<base)(u:Value):(w.setCell a u).ownsRow base e size v n xs:=by
 refine⟨h.1,?_⟩;rcases h.2 with h2 | ⟨g,cap,cur,rfl,hg,hh,rr⟩
 ·exact .inl h2
 ·exact .inr ⟨g,cap,cur,rfl,hg,(Below.heap_setCell _ _ _ _ (by omega)).trans hh,rr⟩
structure FdI(w:World)(r m:Nat)(aC:List iL)(t:Nat)(acc:List UInt8)(u:Value)(wr:World):Prop where
 own:wr.ownsRow w.heap.size 5 1 u acc.length (Lib.byteCells acc)
 rn:DC wr r m t false
 md:Mod (fun q=>q=r) w wr
theorem FdI.no{acc:List UInt8}{u:Value}{wr wr':World}(h:FdI w r m aC t acc u wr)(hm:Mod No wr wr'):FdI w r m aC t acc u wr':=⟨aDV h.own hm,h.rn.mod hm (fun x=>x),h.md.no hm⟩
theorem aLG(w:World)(r m k:Nat)(aC:List iL)(v:M2.View)(hv:VF v)(hx:MFx v aC)(h:DC w r m k false)(hM:lC w m aC)(hk:k<aC.length)(z:List UInt8)(hz:Th.Wb z)(hzl:z.length<=1000):J1 19 #[Jx r 0,.string ⟨z.toArray⟩] w fun e w'=>e=.returned (.tuple #[.string ⟨(sQ aC k (ak z)).1.toArray⟩,I 0])∧DC w' r m (sQ aC k (ak z)).2 false∧Mod (fun q=>q=r) w w':=by
 have hh:=qH (di h);have aL7:=h.lt;have hi:Hd (J1 44 #[.string ⟨z.toArray⟩] w fun e w'=>e=.returned (.bool true)∧w'=w):=by
  have hi:=Dp ⟨z.toArray⟩ w (by rw[aZ];omega);rw[show ((⟨z.toArray⟩:ByteArray).data.toList.all lG)=true by rw[all_eq_true];exact hz]at hi;exact hi
 obtain⟨i0,af,hz0,hz1,hz2⟩:=info_parts aIV;obtain⟨ZB,dw⟩:=eX (⟨z.toArray⟩:ByteArray);have hZs:ZB.size=z.length:=by rw[dw,aZ]
 have hZd:ZB.data.toList=z:=by rw[dw]
 have HG:Hd (∀i (h:i<ZB.size),z[i]?=some ZB[i]):=fun i h=>by
  have:=Lib.data_getElem? ZB i h;rw[hZd]at this;exact this
 clear hZd;obtain⟨R,hR⟩:=eX (sQ aC k (ak z));have HR:=qH hR;have HH:=qH (And.intro h (And.intro hM (And.intro hx (And.intro hv hz))));rw[<-dw,<-hR];rw[<-dw]at hi;have HZB:=qH dw;clear h hM hx hv hz dw hR;go_enter func19,ntmps19;go_wp2_with fail;refine hh.o.mono ?_;rintro e w1 ⟨rfl,rfl⟩;go_wp2_with fail;refine hi.o.mono ?_;rintro e w1 ⟨rfl,rfl⟩;clear hh hi;go_wp2_with fail;go_loopg [6,7] ZB.size (fun gh u6 u7 wr=>∃(i t:Nat) (acc:List UInt8),i<=ZB.size∧gh=ZB.size-i∧u7=I i∧t<aC.length∧acc.length<=1000*i∧(acc++(sQ aC t (ak (z.drop i))).1,(sQ aC t (ak (z.drop i))).2)=R∧FdI w1 r m aC t acc u6 wr)
 case atStart=>exact⟨0,k,[],by omega,rfl,rfl,hk,by simp,by rw[HR.o];rfl,⟨World.ownsRow_nil _ _ _ _,HH.o.1,Mod.refl _ _⟩⟩
 case round=>
  obtain⟨i,t,acc,hile,hgi,rfl,ht,hacc,hgo,hI⟩:=hrel;by_cases hlt:i<ZB.size
  ·have hii:(i:Int)<ZB.size:=by omega
   have hx:=HG.o i hlt;have hcl:=HH.o.2.2.2.2 _ (iI hx);obtain⟨l,hl⟩:=eX (aI.num ZB[i]);have hl4:l<4:=by rw[hl];exact aIE _
   have h45:=qH (jd ZB[i]);rw[<-hl]at h45;have hMr:=aLV HH.o.2.1 HH.o.1 hI.md;obtain⟨vs,hbm,hrow⟩:=hMr;obtain⟨g,cap,rfl,aL8,-⟩:=hrow.form (by omega);obtain⟨q,hq⟩:∃q,aC[t]?=some q:=⟨aC[t]'ht,bG _⟩;have hqm:=oz hq;have aGS:=(aDt HH.o.2.2.2.1 HH.o.2.2.1 hq).2 l hl4;have aLY:=HH.o.2.2.1.inn t q l hq hl4;have QC:(acc++q.sd.getD l []++(sQ aC (q.nx.getD l 0) (ak (z.drop (i+1)))).1,(sQ aC (q.nx.getD l 0) (ak (z.drop (i+1)))).2)=R:=by
    have hzi:i<z.length:=by omega
    have e:ak (z.drop i)=l::ak (z.drop (i+1)):=by
     rw[kJ hzi,(bU hx).2,hl];rfl
    rw[e,sQ,hqm]at hgo;rw[append_assoc];exact hgo
   obtain⟨S0,S1,S2,S3,S4,M0,M1,M2,M3,hSM,s0,s1,s2,s3,s4,s5,s6,s7,s8⟩:=aAS hrow t q hq;have a0:=hI.rn.cell 0 rfl;have a1:=hI.rn.cell 1 rfl;have b0:=hbm.cell 0 rfl;have hrl:=hI.rn.lt;have hml:=hbm.lt;have CA:∀(b o:Nat) (O:Obj),b<wr.heap.size->(wr.alloc O).cell? (J b o)=wr.cell? (J b o):=fun b o O h=>by
    simp only[World.cell?,Below.heap_alloc wr O b h]
   have hti:(t:Int)<aC.length:=by omega
   have HI:=qH hI;have HSM:=qH hSM;have Jg:=qH QC;have HQ:=qH (And.intro hl (And.intro hq aGS));obtain⟨n,hn⟩:=eX aC.length;rw[<-hn]at hti b0;have HN:=qH hn;clear hx hcl hl hI hbm hrow hq hqm hgo QC hSM hn aGS;go_wp2_with fail;refine(h45.o _).mono ?_;rintro e w2 ⟨rfl,rfl⟩;go_wp2_with fail
   go_region
   have HQ0:Hd (aG (w2.alloc (.cells #[.string S0,.string S1,.string S2,.string S3,.string S4,I M0,I M1,I M2,I M3] 104)).drew w2.heap.size (BO.f q) 104):=by
    show aG _ _ _ _;rw[<-aJ6 HSM.o];exact heap_alloc_new w2 _
   have HI2:=qH (HI.o.no (((Mod.refl No w2).alloc (.cells #[.string S0,.string S1,.string S2,.string S3,.string S4,I M0,I M1,I M2,I M3] 104)).drew));have Qn:=fun x (hx:u6.ownBlock=some x)=>World.ownsRow.lt HI.o.own x hx
   generalize (w2.alloc (.cells #[.string S0,.string S1,.string S2,.string S3,.string S4,I M0,I M1,I M2,I M3] 104)).drew=wa at HQ0 HI2 ⊢;generalize w2.heap.size=Q at HQ0 Qn ⊢;obtain⟨sd,hsd⟩:=eX (q.sd.getD l []);obtain⟨nx,hnx⟩:=eX (q.nx.getD l 0);have p1:wa.cell? (J Q (1+l))=some (.string ⟨sd.toArray⟩):=by rw[hsd];exact aIO HQ0.o hl4
   have hsl:sd.length<=800:=by rw[hsd];exact HQ.o.2.2
   have hsz:(⟨sd.toArray⟩:ByteArray).size=sd.length:=aZ _;have hown:=HI2.o.own;have JX:=HI2.o.md.size;have yZ:(l:Int)<4:=by omega
   have HSD:=qH (And.intro hsd hnx);clear HI s0 s1 s2 s3 s4 s5 s6 s7 s8 a0 a1 b0 CA hsd hnx hrl hml aL8;go_wp2_with (at_builtin;refine Lib.wpList_append_own_string wa rfl _ _ 100 9 rfl w1.heap.size 5 i0 underlying100 underlying9 af hz0 hz1 hz2 _ acc.length (Lib.byteCells acc) rfl hown ⟨sd.toArray⟩ rfl (by rw[hsz];unfold maxLen;omega) (by rw[hsz];omega) JX ?_);intro v2 w4 hown4 hg4 aAs;rw[xk]at hown4;have hown5:w4.ownsRow w1.heap.size 5 1 v2 (acc++sd).length (Lib.byteCells (acc++sd)):=Tx.Buf.more hown4;have I8:DC w4 r m t false:=aG.grown HI2.o.rn hg4 (fun e=>by have:=(Qn r e.symm).1;omega);have hQ4:=HQ0.o.grown hg4 (fun e=>by have:=(Qn Q e.symm).2;omega);have hM4:=HI2.o.md.grown hg4 (fun x hx hlt=>absurd hlt (by have:=(Qn x hx).1;omega));have f5:w4.cell? (J Q (5+l))=some (I nx):=by rw[HSD.o.2];exact aJt hQ4 hl4
   have c1:=I8.cell 1 rfl;have fr1:=I8.free 1;have uF:Hd (FdI w1 r m aC nx (acc++sd) v2 (w4.setCell (J r 1) (I nx))):=by
    exact⟨aLP hown5 (a:=J r 1) aL7 _,aG.set I8 1 _,Mod.setCell (S:=fun q=>q=r) hM4 (a:=J r 1) (fun _=>rfl) _⟩
   have HG2:Hd ((acc++sd++(sQ aC nx (ak (z.drop (i+1)))).1,(sQ aC nx (ak (z.drop (i+1)))).2)=R):=by
    show (_,_)=R;rw[HSD.o.1,HSD.o.2];exact Jg.o
   have hnl:nx<aC.length:=by rw[HSD.o.2];exact aLY
   clear hown hown4 hown5 hg4 aAs I8 hQ4 hM4 p1 HI2 HQ0 Jg aLY;go_wp2;go_roundg (ZB.size-(i+1))
   case measure=>omega
   case rel=>exact⟨i+1,nx,acc++sd,by omega,rfl,by go_num,hnl,by rw[length_append];omega,HG2.o,uF.o⟩
  ·obtain rfl:i=ZB.size:=by omega
   have HRR:Hd (R=(acc,t)):=qH <| by
    rw[<-hgo,drop_of_length_le (by omega)];show (acc++[],t)=(acc,t);rw[append_nil]
   have hown:=hI.own;have HI:=qH hI;have hn:¬(ZB.size:Int)<ZB.size:=by omega
   rcases hown.2 with ⟨rfl,h0⟩ | ⟨g,cap,cur,rfl,-,-,-,-,-,-⟩
   ·have hcv:∀wx,(convert 100 9 (.slice none 0 0)).run prog wx=.ok (.string ⟨#[]⟩) wx:=fun wx=>by rw[run_convert_bytes_string wx 100 9 5 none 0 0 underlying100 underlying5 underlying9];rfl
    obtain rfl:acc=[]:=eq_nil_of_length_eq_zero h0;clear hI hown hgo;go_wp2;go_ret2;rw[HRR.o];exact⟨rfl,HI.o.rn,HI.o.md⟩
   ·have hcv1:=run_convert_bytes_back (P:=prog) wr 100 9 5 (J g 0) cap acc underlying100 underlying5 underlying9 (fun j hj=>hown.cells (g:=g) rfl j _ (by simp[Lib.byteCells,hj]));clear hI hown hgo;go_wp2;go_ret2;rw[HRR.o];exact⟨rfl,HI.o.rn,HI.o.md⟩
def aLQ(aC:List iL)(k:Nat)(b:List UInt8):Prop:=Th.Wb b∧b.length<=200∧((I4 aC k).en=[]∨∃c,(I4 aC k).en.head?=some c∧(kC aC k (ak b)).head?≠some c)
theorem aEK{c:Bool}(hx:MFx v aC)(h:DC w r m k c)(hM:lC w m aC)(hk:k<aC.length):J1 47 #[Jx r 0] w fun e w'=>∃b,e=.returned (.tuple #[.string ⟨#[]⟩,.string ⟨b.toArray⟩])∧aLQ aC k b∧Mod No w w':=by
 have hp:=qH (dM h hM hk);obtain⟨E,hE⟩:=eX (⟨(I4 aC k).en.toArray⟩:ByteArray);rw[<-hE]at hp;have hEl:E.toList=(I4 aC k).en:=by rw[toList_data,hE]
 have hEs:E.size=(I4 aC k).en.length:=by rw[hE,aZ]
 cases hen:(I4 aC k).en with
 | nil=>
  have hem:E.toList.isEmpty=true:=by rw[hEl,hen];rfl
  have HO:Hd (aLQ aC k []):=⟨fun _ h=>(by cases h),Nat.zero_le _,Or.inl hen⟩;clear hE hEl hEs hen hx h hM hk;go_enter func47,ntmps47;go_wp2_with fail;refine hp.o.mono ?_;rintro e w1 ⟨rfl,n,rfl⟩;go_wp2;go_ret2;exact⟨[],rfl,HO.o,(Mod.refl No w).drewN n⟩
 | cons c0 en'=>
  have hem:E.toList.isEmpty=false:=by rw[hEl,hen];rfl
  have h0:0<E.size:=by rw[hEs,hen];simp
  have h0i:(0:Int)<(E.size:Int):=by omega
  have hc0:E[0]=c0:=by
   have:=Kt h0;rw[show E.data.toList=(I4 aC k).en by rw[hE],hen]at this;exact(dY this).symm
  obtain⟨vs,hbm,hrow⟩:=hM;have U:=fun wx (hm:Mod No w wx)=>aI4 wx vs aC k c0 v hx (hrow.no hm) hk
  obtain⟨-,-,-,hun,-⟩:=Calls.fact (U w (Mod.refl _ _));have HU:Hd (∀wx,Mod No w wx->J1 75 #[vs,I k,.int .u8 (E[0].toNat:Int)] wx fun e w'=>e=.returned (.string ⟨(unM aC k c0).toArray⟩)∧Mod No wx w'):=fun wx hm=>by
   rw[hc0];exact(U wx hm).mono fun _ _ h=>⟨h.1,h.2.2⟩
  have HO:Hd (aLQ aC k (unM aC k c0)):=⟨hun.1,Nat.le_trans hun.2.1 hx.le,Or.inr ⟨c0,by rw[hen];rfl,hun.2.2⟩⟩;have HB:=qH (And.intro h hbm);generalize unM aC k c0=b at HU HO;clear hE hEl hEs hen hx h hbm hrow hk U hun hc0;go_enter func47,ntmps47;go_wp2_with fail;refine hp.o.mono ?_;rintro e w1 ⟨rfl,n,rfl⟩;go_wp2_with fail;have hm1:=(Mod.refl No w).drewN n;generalize w.drewN n=W at hm1 ⊢;have hne:Nonempty (After W):=⟨⟨W,Mod.refl _ _⟩⟩;have a0:=fun(x:After W)=>(HB.o.1.mod (hm1.no x.property) (fun y=>y)).cell 0 rfl
  have a1:=fun(x:After W)=>(HB.o.1.mod (hm1.no x.property) (fun y=>y)).cell 1 rfl
  have b0:=fun(x:After W)=>(HB.o.2.mod (hm1.no x.property) (fun y=>y)).cell 0 rfl
  refine aIw (by kernel_rfl) (by kernel_rfl) ?_;repeat (quiet_step (exact Calls.calm (HU.o _ (hm1.no (Subtype.property _)))))
  refine wpQuiet_nil ?_;rintro w9 ⟨z9,hz9⟩;have m9:Mod No W w9:=by rw[hz9];exact z9.property
  clear z9 hz9;go_wp2;go_ret2;exact⟨b,rfl,HO.o,hm1.no m9⟩
structure DL(w:World)(M m R c:Nat)(ps:List (Th.LR × Value))(l:List Th.LR)(aC:List iL)(v:M2.View):Prop where
 blk:aG w M [Jx m 0,Jn R ps.length c] 48
 mc:lC w m aC
 lr:nZ w (Jn R ps.length c) ps
 pl:ps.map Prod.fst=l
 ok:∀a∈l,a.Ok
 l1:1<=l.length
 l4:l.length<=4
 vf:VF v
 fx:MFx v aC
 law:∀z,Th.Wd z->wV l 0 z=kC aC 0 z
section
variable {w w':World} {M m R c:Nat} {ps:List (Th.LR × Value)} {l:List Th.LR} {aC:List iL} {v:M2.View}
theorem DL.no(h:DL w M m R c ps l aC v)(hm:Mod No w w'):DL w' M m R c ps l aC v:=⟨h.blk.mod hm (fun x=>x),h.mc.no hm,h.lr.mod hm,h.pl,h.ok,h.l1,h.l4,h.vf,h.fx,h.law⟩
theorem DL.run(h:DL w M m R c ps l aC v)(hr:aG w r cs 114)(hm:Mod (fun q=>q=r) w w'):DL w' M m R c ps l aC v:=by
 refine⟨h.blk.mod hm (fun e=>?_),aLV h.mc hr hm,⟨h.lr.row.mod hm (fun g hg e=>h.lr.row.blk hr (by decide) (by rw[hg,e])),fun p hp=>(h.lr.Y5 p hp).mod hm (fun g hg e=>(h.lr.Y5 p hp).blk hr (by decide) (by rw[hg,e]))⟩,h.pl,h.ok,h.l1,h.l4,h.vf,h.fx,h.law⟩;subst e;have:=h.blk.symm.trans hr;injection this with this;injection this with _ h2;exact absurd h2 (by decide)
theorem DL.rw(h:DL w M m R c ps l aC v)(z:List UInt8)(hz:Th.Wb z)(hzl:z.length<=100000):J1 26 #[Jn R ps.length c,.string (sb z)] w fun e w'=>e=.returned (.string (sb (kC aC 0 (ak z))))∧Mod No w w':=by
 have e:ps.length=l.length:=by rw[<-h.pl,length_map]
 have h1:=h.l1;have h4:=h.l4;have:=Ib w R c ps z h.lr (fun p hp=>h.ok p.1 (by rw[<-h.pl];exact mem_map_of_mem hp)) (by omega) (by omega) hz hzl;rw[h.pl,h.law _ (qX z)]at this;exact this
theorem DL.len(h:DL w M m R c ps l aC v)(z:List Nat)(hz:Th.Wd z):(kC aC 0 z).length<=4*z.length:=by
 rw[h.fx.all z hz];exact aCM h.vf z
end
structure At(aC:List iL)(p out:List UInt8)(k:Nat):Prop where
 wb:Th.Wb p
 len:p.length<=100
 go:sQ aC 0 (ak p)=(out,k)
theorem At.run(h:At aC p out k)(z:List UInt8):kC aC 0 (ak (p++z))=out++kC aC k (ak z):=by
 rw[gQ,YL,h.go]
theorem At.lt(h:At aC p out k)(hx:MFx v aC):k<aC.length:=by
 have:=aLE hx (ak p) 0 hx.pos (qX p);rw[h.go]at this;exact this
theorem DL.said(h:DL w M m R c ps l aC v){q:Nat}(ha:At aC p out k)(hq:q=ps.length){P O:ByteArray}(hP:P=sb p)(hO:O=sb out)(z:List UInt8)(Z:ByteArray)(hZ:Z=sb z)(hz:Th.Wb z)(hzl:z.length<=1000):∃Y:ByteArray,Y=sb (out++kC aC k (ak z))∧(∀wx,Mod No w wx->J1 26 #[Jn R q c,.string (P++Z)] wx fun e w'=>e=.returned (.string Y)∧Mod No wx w')∧∀wx,J1 46 #[.string Y,.string O] wx fun e w'=>e=.returned (.bool true)∧w'=wx:=by
 refine⟨_,rfl,fun wx hm=>?_,fun wx=>?_⟩
 ·have:=(h.no hm).rw (p++z) (nO ha.wb hz) (by rw[length_append];have:=ha.len;omega);rw[ha.run]at this;rw[hP,hZ,hq,dm];exact this
 ·rw[hO];exact aEG _ _ wx (prefix_append _ _)
theorem DL.aLH(h:DL w M m R c ps l aC v)(ha:At aC p out k):out.length<=400∧(I4 aC k).en.length<=800:=by
 constructor
 ·have h1:=h.len (ak p) (qX p);have h2:=ha.run [];rw[append_nil]at h2;rw[h2,length_append]at h1;have:=ha.len;have e:(ak p).length=p.length:=by unfold ak;rw[length_map]
  omega
 ·have hq:=bG (ha.lt h.fx);rw[oz hq];exact(aDt h.vf h.fx hq).1
theorem aLR(h:DL w M m R c ps l aC v){cl:Bool}(hr:DC w r m k cl)(ha:At aC p out k):J1 20 #[Jx M 0,Jx r 0,.string (sb p),.string (sb out)] w fun e w'=>e=.returned (.bool true)∧Mod No w w':=by
 have hk:=ha.lt h.fx;obtain⟨hol,hel⟩:=h.aLH ha;have HP:Hd (∀wx,Mod No w wx->J1 21 #[Jx r 0] wx fun e w'=>e=.returned (.string (sb (I4 aC k).en))∧∃n,w'=wx.drewN n):=fun wx hm=>dM (hr.mod hm (fun x=>x)) (h.mc.no hm) hk
 have HS:Hd (∀wx,Mod No w wx->J1 47 #[Jx r 0] wx fun e w'=>∃b,e=.returned (.tuple #[.string ⟨#[]⟩,.string (sb b)])∧aLQ aC k b∧Mod No wx w'):=fun wx hm=>aEK h.fx (hr.mod hm (fun x=>x)) (h.mc.no hm) hk
 have HB:=qH fun wx (hm:Mod No w wx)=>(h.blk.mod hm (fun x=>x)).cell 1 rfl
 have hpl:=ha.len;obtain⟨q,hq⟩:=eX ps.length;rw[<-hq]at HB;have k1:=HB.o w (Mod.refl _ _);obtain⟨en,hen⟩:=eX ((I4 aC k).en);rw[<-hen]at HP hel;have HEN:Hd (kC aC k (ak [])=en):=by rw[hen];rfl
 obtain⟨P,hP⟩:=eX (sb p);obtain⟨O,hO⟩:=eX (sb out);obtain⟨E,hE⟩:=eX (sb en);have hPs:P.size=p.length:=by rw[hP,ai]
 have hOs:O.size=out.length:=by rw[hO,ai]
 have hEs:E.size=en.length:=by rw[hE,ai]
 rw[<-hP,<-hO];rw[<-hE]at HP;have HA:Hd (∀(z:List UInt8) (Z:ByteArray),Z=sb z->Th.Wb z->z.length<=1000->∃(y:List UInt8) (Y:ByteArray),Y=sb (out++y)∧y=kC aC k (ak z)∧(∀wx,Mod No w wx->J1 26 #[Jn R q c,.string (P++Z)] wx fun e w'=>e=.returned (.string Y)∧Mod No wx w')∧∀wx,J1 46 #[.string Y,.string O] wx fun e w'=>e=.returned (.bool true)∧w'=wx):=fun z Z hZ hz hzl=>by
  obtain⟨Y,h1,h2,h3⟩:=h.said ha hq hP hO z Z hZ hz hzl;exact⟨_,Y,h1,rfl,h2,h3⟩
 obtain⟨y0,Y0,hY0,hy0,A0,B0⟩:=HA.o [] ⟨#[]⟩ rfl (fun _ h=>(by cases h)) (Nat.zero_le _);obtain rfl:y0=en:=hy0.trans HEN.o;have hcmp:(Y0.toList==(O++E).toList)=true:=by rw[hY0,hO,hE,dm];exact beq_self_eq_true _
 have Lj:¬9223372036854775807<O.size+E.size:=by omega
 have hA0:∀wx,Mod No w wx->J1 26 #[Jn R q c,.string P] wx fun e w'=>e=.returned (.string Y0)∧Mod No wx w':=fun wx hm=>by
  have:=A0 wx hm;rw[show P++(⟨#[]⟩:ByteArray)=P by rw[hP,show (⟨#[]⟩:ByteArray)=sb [] from rfl,dm,append_nil]]at this;exact this
 have HA0:=qH hA0;have aLZ:=qH A0;have HB0:=qH B0;have HY0:=qH (And.intro hY0 (And.intro hO (And.intro hE hen)));clear h hr ha hk hen hP hO hE hY0 hy0 A0 B0 hA0 HEN hq;go_enter func20,ntmps20;go_wp2_with fail;refine(HA0.o _ (Mod.refl _ _)).mono ?_;rintro e w1 ⟨rfl,m1⟩;go_wp2_with fail;refine(HP.o _ m1).mono ?_;rintro e w2 ⟨rfl,n2,rfl⟩;have lF:=qH (m1.drewN n2);generalize w1.drewN n2=w3 at lF ⊢;go_wp2_with fail;refine(aJW _).mono ?_;rintro e w4 ⟨tv,zs,rfl,hzr,hzo,hz1,aLt,m4⟩;obtain⟨g,cap,rfl,-,-⟩:=hzr.form (by omega);have HM4:=qH (lF.o.no m4);have HZ:=qH (And.intro hzr hzo);obtain⟨kzz,hkz⟩:=eX (zs.length);have HK:=qH hkz;rw[<-hkz]at hz1 aLt ⊢;clear lF m4 hzr hzo hkz hcmp k1 m1 Lj;go_wp2_with fail;go_loopg [29] 40 (fun gh u wr=>∃j:Nat,u=I j∧j<=kzz∧gh=40-j∧Mod No w4 wr)
 case atStart=>exact⟨0,rfl,by omega,rfl,Mod.refl _ _⟩
 case round=>
  obtain⟨j,rfl,hjk,hgj,hm⟩:=hrel;have HMr:=qH (HM4.o.no hm);have k1:=HB.o wr HMr.o;by_cases hj:j<kzz
  ·have hji:(j:Int)<kzz:=by omega
   obtain⟨z,hz⟩:∃z,zs[j]?=some z:=⟨zs[j]'(by have:=HK.o;omega),bG _⟩;obtain⟨hzw,hzl⟩:=HZ.o.2 z (iI hz);obtain⟨ZB,dw⟩:=eX (sb z);have hZs:ZB.size<=60:=by rw[dw,ai];exact hzl
   obtain⟨y,Y,-,-,hA,hBg⟩:=HA.o z ZB dw hzw (by omega);have HAz:=qH hA;have HBz:=qH hBg;have cz:wr.cell? (J g j)=some (.string ZB):=by
    rw[dw];refine NH.cell (n:=kzz) (cap:=cap) ?_ hz;rw[HK.o];exact HZ.o.1.no hm
   have Lj:¬9223372036854775807<P.size+ZB.size:=by omega
   have HMm:=qH hm;clear hzw hzl hz dw hm hA hBg;go_wp2_with fail;refine(HAz.o _ HMr.o).mono ?_;rintro e w5 ⟨rfl,m5⟩;have HM5:=qH (HMm.o.no m5);go_wp2_with fail;refine(HBz.o _).mono ?_;rintro e w6 ⟨rfl,rfl⟩;clear m5;go_wp2;go_roundg (40-(j+1))
   case measure=>omega
   case rel=>exact⟨j+1,by go_num,by omega,rfl,HM5.o⟩
  ·have hnj:¬(j:Int)<kzz:=by omega
   clear hm;go_wp2_with fail;refine(HS.o _ HMr.o).mono ?_;rintro e w5 ⟨b,rfl,hsh,m5⟩;have HM5:=qH (HMr.o.no m5);obtain⟨hbw,hbl,hor⟩:=hsh;obtain⟨Bb,hBb⟩:=eX (sb b);have hBs:Bb.size<=200:=by rw[hBb,ai];exact hbl
   obtain⟨y,Y,hY,hy,hA,hBg⟩:=HA.o b Bb hBb hbw (by omega);have HAb:=qH hA;have HBb:=qH hBg;rw[<-hBb];have HF:=qH (And.intro hY (And.intro hy hor));clear hY hy hor hA hBg hBb hbw hbl m5;have hb4:¬(4000:Int)<(Bb.size:Int):=by omega
   have k1:=HB.o w5 HM5.o;have hc1:¬9223372036854775807<P.size+Bb.size:=by omega
   clear hPs hEs;go_wp2_with fail;refine(aLZ.o _ HM5.o).mono ?_;rintro e w6 ⟨rfl,m6⟩;have HM6:=qH (HM5.o.no m6);have k1:=HB.o w6 HM6.o;go_wp2_with fail;refine(HAb.o _ HM6.o).mono ?_;rintro e w7 ⟨rfl,m7⟩;have HM7:=qH (HM6.o.no m7);obtain⟨hY0,hO,hE,hen⟩:=HY0.o;obtain⟨hY,hy,hor⟩:=HF.o;have s0:Y0.size=O.size+y0.length:=by rw[hY0,hO,ai,ai,length_append]
   have s1:Y.size=O.size+y.length:=by rw[hY,hO,ai,ai,length_append]
   clear m6 m7 HA HS HP HAb aLZ HA0;by_cases h0:y0.length=0
   ·have q1:((Y0.size:Int)==(O.size:Int))=true:=by rw[beq_iff_eq];omega
    clear hY0 hO hE hen hY hy hor s0 s1 hOs hol hel;go_wp2_with fail;go_quiet (first | (go_at_call_of 46 (Value.string Y0);exact Calls.quiet_of_same (HB0.o _)) | exact Calls.quiet_of_same (HBb.o _));go_wp2;go_ret;exact⟨rfl,HM7.o.drewN _⟩
   ·have q1:((Y0.size:Int)==(O.size:Int))=false:=by rw[beq_eq_false_iff_ne];omega
    by_cases h1:y.length=0
    ·have q2:((Y.size:Int)==(O.size:Int))=true:=by rw[beq_iff_eq];omega
     clear hY0 hO hE hen hY hy hor s0 s1 hOs hol hel;go_wp2_with fail;go_quiet (first | (go_at_call_of 46 (Value.string Y0);exact Calls.quiet_of_same (HB0.o _)) | exact Calls.quiet_of_same (HBb.o _));go_wp2;go_ret;exact⟨rfl,HM7.o.drewN _⟩
    ·have q2:((Y.size:Int)==(O.size:Int))=false:=by rw[beq_eq_false_iff_ne];omega
     have l0:O.size<Y0.size:=by omega
     have l1:O.size<Y.size:=by omega
     have l0i:(O.size:Int)<Y0.size:=by omega
     have l1i:(O.size:Int)<Y.size:=by omega
     have q3:((Y0[O.size].toNat:Int)==(Y[O.size].toNat:Int))=false:=by
      rw[beq_eq_false_iff_ne];intro hh;have hh:Y0[O.size]=Y[O.size]:=UInt8.toNat_inj.1 (by omega);have hd0:Y0.data.toList=out++y0:=by rw[hY0]
      have hd1:Y.data.toList=out++y:=by rw[hY]
      have g0:=Lib.data_getElem? Y0 O.size l0;have g1:=Lib.data_getElem? Y O.size l1;rw[hd0,mW (by omega),show O.size-out.length=0 by omega,<-head?_eq_getElem?]at g0;rw[hd1,mW (by omega),show O.size-out.length=0 by omega,<-head?_eq_getElem?]at g1;rcases hor with e | ⟨c',e1,e2⟩
      ·rw[<-hen]at e;rw[e]at h0;exact h0 rfl
      ·rw[<-hen,g0]at e1;rw[<-hy,g1,<-hh]at e2;exact e2 e1
     clear hY0 hO hE hen hY hy hor s0 s1 hOs hol hel;go_wp2_with fail;go_quiet (first | (go_at_call_of 46 (Value.string Y0);exact Calls.quiet_of_same (HB0.o _)) | exact Calls.quiet_of_same (HBb.o _));go_wp2;go_ret;refine⟨?_,HM7.o.drewN _⟩;show Ending.returned (Value.bool ((Y0[O.size].toNat:Int) != (Y[O.size].toNat:Int)))=_;rw[bne,q3];rfl
theorem aLI(a b:List UInt8):(sb (a++b)).extract 0 a.length=sb a:=by
 rw[aB0,take_append_of_le_length (dH _),take_length]
theorem DW(a b:List UInt8):(sb (a++b)).extract a.length (sb (a++b)).size=sb b:=by
 rw[ai];apply ByteArray.ext;simp[sb]
theorem alike_any(h:DL w M m R c ps l aC v){p' out':List UInt8}(ha:At aC p out k)(ha':At aC p' out' k):J1 23 #[Jx M 0,.string (sb p),.string (sb p'),I k] w fun e w'=>e=.returned (.bool true)∧Mod No w w':=by
 have hk:=ha.lt h.fx;obtain⟨hol,hel⟩:=h.aLH ha;obtain⟨aL0,-⟩:=h.aLH ha';obtain⟨q,hq⟩:=eX (ps.length);obtain⟨en,hen⟩:=eX ((I4 aC k).en);obtain⟨P,hP⟩:=eX (sb p);obtain⟨P',hP'⟩:=eX (sb p');obtain⟨O,hO⟩:=eX (sb out);obtain⟨O',hO'⟩:=eX (sb out');obtain⟨E,hE⟩:=eX (sb en);obtain⟨Y,hY,hA,-⟩:=h.said ha hq hP hO [] ⟨#[]⟩ rfl (fun _ h=>(by cases h)) (Nat.zero_le _);obtain⟨Y',hY',hA',-⟩:=h.said ha' hq hP' hO' [] ⟨#[]⟩ rfl (fun _ h=>(by cases h)) (Nat.zero_le _);have he0:kC aC k (ak [])=en:=by rw[hen];rfl
 rw[he0]at hY hY';have ePx:∀{p P},P=sb p->P++(⟨#[]⟩:ByteArray)=P:=fun {p P} hP=>by rw[hP,show (⟨#[]⟩:ByteArray)=sb [] from rfl,dm,append_nil]
 rw[ePx hP]at hA;rw[ePx hP']at hA';have HS:=qH fun z Z hZ hz hzl=>h.said ha hq hP hO z Z hZ hz hzl
 have HS':=qH fun z Z hZ hz hzl=>h.said ha' hq hP' hO' z Z hZ hz hzl
 have HP:Hd (∀wx r,Mod No w wx->DC wx r m k false->J1 21 #[Jx r 0] wx fun e w'=>e=.returned (.string E)∧∃n,w'=wx.drewN n):=fun wx r hm hr=>by
  rw[hE,hen];exact dM hr (h.mc.no hm) hk
 have HR:=qH fun wx (hm:Mod No w wx)=>jh (h.mc.no hm) hk
 have HB:Hd (∀wx,Mod No w wx->wx.cell? (J M 0)=some (Jx m 0)∧wx.cell? (J M 1)=some (Jn R q c)):=fun wx hm=>by
  have g:=h.blk.mod hm (fun x=>x);rw[hq];exact⟨g.cell 0 rfl,g.cell 1 rfl⟩
 have sY:Y.size=O.size+E.size:=by rw[hY,hO,hE,ai,ai,ai,length_append]
 have sY':Y'.size=O'.size+E.size:=by rw[hY',hO',hE,ai,ai,ai,length_append]
 have sE:E.size<=800:=by rw[hE,ai,hen];exact hel
 have sOz:O.size<=400:=by rw[hO,ai];exact hol
 have sO':O'.size<=400:=by rw[hO',ai];exact aL0
 have sP:P.size<=100:=by rw[hP,ai];exact ha.len
 have sP':P'.size<=100:=by rw[hP',ai];exact ha'.len
 have x1:Y.extract 0 O.size=O:=by rw[hY,hO,ai];exact aLI _ _
 have x1':Y'.extract 0 O'.size=O':=by rw[hY',hO',ai];exact aLI _ _
 have HO:=qH (And.intro hO hO');have g1:¬(Y.size:Int)<E.size:=by omega
 have g1':¬(Y'.size:Int)<E.size:=by omega
 have g2:(Y.size:Int)-(E.size:Int)=O.size:=by omega
 have g2':(Y'.size:Int)-(E.size:Int)=O'.size:=by omega
 have g3:(O.size:Int)<=Y.size:=by omega
 have g3':(O'.size:Int)<=Y'.size:=by omega
 have g4:IntKind.i64.wrap (O.size:Int)=O.size:=by rw[IntKind.wrap_i64];omega
 have g4':IntKind.i64.wrap (O'.size:Int)=O'.size:=by rw[IntKind.wrap_i64];omega
 have HA:=qH (And.intro hA hA');rw[<-hP,<-hP'];have k01:=HB.o w (Mod.refl _ _);have k0:=k01.1;have k1:=k01.2;clear h ha ha' hk hq hen hP hP' hO hO' hE hY hY' he0 ePx hA hA' k01 hel hol aL0 sY sY';go_enter func23,ntmps23;go_wp2_with fail;refine(HA.o.1 _ (Mod.refl _ _)).mono ?_;rintro e w1 ⟨rfl,m1⟩;have DN:=qH m1;obtain⟨k0,k1⟩:=HB.o w1 DN.o;go_wp2_with fail;refine(HA.o.2 _ DN.o).mono ?_;rintro e w2 ⟨rfl,m2⟩;have lF:=qH (DN.o.no m2);obtain⟨k0,k1⟩:=HB.o w2 lF.o;clear m1 m2 DN;go_wp2_with fail;refine(HR.o _ lF.o).mono ?_;rintro e w3 ⟨⟨r,rfl,-,hr⟩,m3⟩;have Aa:=qH (lF.o.no m3);have HRn:=qH hr;clear m3 hr lF;go_wp2_with fail;refine(HP.o _ _ Aa.o HRn.o).mono ?_;rintro e w4 ⟨rfl,n4,rfl⟩;have HM4:=qH (Aa.o.drewN n4);generalize w3.drewN n4=w4 at HM4 ⊢;go_wp2_with fail;refine(aJW _).mono ?_;rintro e w5 ⟨tv,zs,rfl,hzr,hzo,hz1,aLt,m5⟩;obtain⟨g,cap,rfl,-,-⟩:=hzr.form (by omega);have HM5:=qH (HM4.o.no m5);have HZ:=qH (And.intro hzr hzo);obtain⟨kzz,hkz⟩:=eX (zs.length);have HK:=qH hkz;rw[<-hkz]at hz1 aLt ⊢;clear Aa HM4 m5 hzr hzo hkz k0 k1 HA HP HR HRn x1 x1' g1 g1' g2 g2' g3 g3' g4 g4';go_wp2_with fail;go_loopg [68] 40 (fun gh u wr=>∃j:Nat,u=I j∧j<=kzz∧gh=40-j∧Mod No w5 wr)
 case atStart=>exact⟨0,rfl,by omega,rfl,Mod.refl _ _⟩
 case round=>
  obtain⟨j,rfl,hjk,hgj,hm⟩:=hrel;have HMr:=qH (HM5.o.no hm);by_cases hj:j<kzz
  ·have hji:(j:Int)<kzz:=by omega
   obtain⟨z,hz⟩:∃z,zs[j]?=some z:=⟨zs[j]'(by have:=HK.o;omega),bG _⟩;obtain⟨hzw,hzl⟩:=HZ.o.2 z (iI hz);obtain⟨ZB,dw⟩:=eX (sb z);have hZs:ZB.size<=60:=by rw[dw,ai];exact hzl
   obtain⟨Y1,hY1,hA1,hB1⟩:=HS.o z ZB dw hzw (by omega);obtain⟨Y2,hY2,hA2,hB2⟩:=HS'.o z ZB dw hzw (by omega);obtain⟨T,hT⟩:=eX (sb (kC aC k (ak z)));have x1:Y1.extract O.size Y1.size=T:=by rw[hY1,HO.o.1,ai,hT];exact DW _ _
   have x2:Y2.extract O'.size Y2.size=T:=by rw[hY2,HO.o.2,ai,hT];exact DW _ _
   have s1:O.size<=Y1.size:=by rw[hY1,HO.o.1,ai,ai,length_append];omega
   have s2:O'.size<=Y2.size:=by rw[hY2,HO.o.2,ai,ai,length_append];omega
   have s1i:(O.size:Int)<=Y1.size:=by omega
   have s2i:(O'.size:Int)<=Y2.size:=by omega
   have hcmp:(T.toList==T.toList)=true:=beq_self_eq_true _;have HA1:=qH hA1;have HA2:=qH hA2;have HB1:=qH hB1;have HB2:=qH hB2;have cz:wr.cell? (J g j)=some (.string ZB):=by
    rw[dw];refine NH.cell (n:=kzz) (cap:=cap) ?_ hz;rw[HK.o];exact HZ.o.1.no hm
   have Lj:¬9223372036854775807<P.size+ZB.size:=by omega
   have aHk:¬9223372036854775807<P'.size+ZB.size:=by omega
   have HMm:=qH hm;obtain⟨-,k1⟩:=HB.o wr HMr.o;clear hzw hzl hz dw hm hA1 hA2 hB1 hB2 hY1 hY2 hT;go_wp2_with fail;refine(HA1.o _ HMr.o).mono ?_;rintro e w6 ⟨rfl,m6⟩;have HM6:=qH (HMr.o.no m6);have HN6:=qH (HMm.o.no m6);obtain⟨-,k1⟩:=HB.o w6 HM6.o;clear m6;go_wp2_with fail;refine(HA2.o _ HM6.o).mono ?_;rintro e w7 ⟨rfl,m7⟩;have HN7:=qH (HN6.o.no m7);clear m7;go_wp2_with fail;go_quiet (first | (go_at_call_of 46 (Value.string Y1);exact Calls.quiet_of_same (HB1.o _)) | exact Calls.quiet_of_same (HB2.o _));have HN8:=qH (HN7.o.drewN nq);go_wp2;go_roundg (40-(j+1))
   case measure=>omega
   case rel=>exact⟨j+1,by go_num,by omega,rfl,HN8.o⟩
  ·have hnj:¬(j:Int)<kzz:=by omega
   clear hm;go_wp2;go_ret;exact⟨rfl,HMr.o⟩
theorem aL1(l:Nat)(hl:l<4)(N0 N1 N2 N3:Nat)(w:World):(Instr.index 102 (.agg #[I N0,I N1,I N2,I N3]) (I l)).run prog w=.ok (I (([N0,N1,N2,N3].getD l 0:Nat):Int)) w:=by
 match l,hl with
 | 0,_=>exact aEw _ _ _ _ w
 | 1,_=>exact aEx _ _ _ _ w
 | 2,_=>exact aEy _ _ _ _ w
 | 3,_=>exact aEz _ _ _ _ w
structure FwI(w:World)(u:Value)(ws:List (List UInt8))(wr:World):Prop where
 row:Row NH wr u ws
 fr:∀q,u.ownBlock=some q->w.heap.size<=q
 md:Mod No w wr
 len:∀(k:Nat) (z:List UInt8),ws[k]?=some z->z.length<=k
theorem aLJ{m4 l:Nat}{ts:List Nat}(ht:ts[l]?=some t)(h:KO n (ts.drop l) m=some m4):t<=m∧t<n∧KO n (ts.drop (l+1)) (if t=m then m+1 else m)=some m4:=by
 obtain⟨hl,e⟩:=bU ht;rw[kJ hl,e,KO]at h;split at h
 ·cases h
 ·exact⟨by omega,by omega,h⟩
theorem Md(w:World)(v:Value)(aC:List iL)(vv:M2.View)(hx:MFx vv aC)(hst:Row BO w v aC):J1 42 #[v] w fun e w'=>∃u ws,e=.returned u∧Row NH w' u ws∧ws.length=aC.length∧Mod No w w':=by
 obtain⟨i0,af,hz0,hz1,hz2⟩:=info_parts aIG;have h0:=hx.pos;have hl:=hx.le;obtain⟨g,cap,rfl,-,-⟩:=hst.form (by omega);obtain⟨n,hn⟩:=eX (aC.length);have HN:=qH hn;have hnum:=hx.num;rw[<-hn]at h0 hl hst hnum ⊢;have HST:=qH hst;have HNU:=qH hnum;clear hst hx hn hnum;have HW0:Hd (FwI w (Jn w.heap.size 1 1) [[]] (w.alloc (.cells #[.string ⟨#[]⟩] 9))):=by
  refine⟨Row.of_block (E:=NH) (xs:=[[]]) (heap_alloc_new _ _) (by show 1<=_;unfold maxLen;decide),fun q hq=>by cases hq;exact dH _,(Mod.refl _ _).alloc _,fun k z hz=>?_⟩;have:z=[]:=by
   have:=iI hz;simpa using this
  subst this;exact Nat.zero_le _
 go_enter func42,ntmps42;go_wp2_with fail;generalize w.alloc (.cells #[.string ⟨#[]⟩] 9)=W1 at HW0 ⊢;go_loopg [3,4] n (fun gh u3 u4 wr=>∃(i:Nat) (ws:List (List UInt8)),u4=I i∧i<=n∧gh=n-i∧zC n (aC.drop i) i ws.length=some n∧1<=ws.length∧ws.length<=n∧FwI w u3 ws wr)
 case atStart=>exact⟨0,[[]],rfl,by omega,rfl,HNU.o,by simp,by simp;omega,HW0.o⟩
 case round=>
  clear HW0 HNU;obtain⟨i,ws,rfl,hin,hgi,hgo,hw1,hwn,hI⟩:=hrel;obtain⟨k,hk⟩:=eX (ws.length);obtain⟨pa,pc,ev,-,-⟩:=hI.row.open hk.symm;subst ev;rw[<-hk]at hgo hw1 hwn;by_cases hlt:i<n
  ·have h2:(i:Int)<n:=by omega
   obtain⟨q,hq⟩:∃q,aC[i]?=some q:=⟨aC[i]'(by have:=HN.o;omega),bG _⟩;obtain⟨hsi,hsq⟩:=bU hq;rw[kJ hsi,hsq,zC]at hgo;by_cases hki:k<=i
   ·rw[aP hki]at hgo;cases hgo
   ·rw[aU hki]at hgo;obtain⟨m4,hm4⟩:∃m4,KO n [q.nx.getD 0 0,q.nx.getD 1 0,q.nx.getD 2 0,q.nx.getD 3 0] k=some m4:=by
     cases hh:KO n [q.nx.getD 0 0,q.nx.getD 1 0,q.nx.getD 2 0,q.nx.getD 3 0] k with
     | none=>rw[hh]at hgo;cases hgo
     | some m4=>exact⟨m4,rfl⟩
    rw[hm4]at hgo;have h1:(i:Int)<k:=by omega
    obtain⟨wi,hwi⟩:∃z,ws[i]?=some z:=⟨ws[i]'(by omega),bG _⟩;have aLz:=hI.len i wi hwi;have hs:=HST.o.no hI.md;have c5:wr.cell? (J g (i*9+5))=some (I ((q.nx.getD 0 0:Nat):Int)):=hs.cell i 5 hq rfl;have c6:wr.cell? (J g (i*9+6))=some (I ((q.nx.getD 1 0:Nat):Int)):=hs.cell i 6 hq rfl;have c7:wr.cell? (J g (i*9+7))=some (I ((q.nx.getD 2 0:Nat):Int)):=hs.cell i 7 hq rfl;have c8:wr.cell? (J g (i*9+8))=some (I ((q.nx.getD 3 0:Nat):Int)):=hs.cell i 8 hq rfl;generalize q.nx.getD 0 0=N0 at c5 hm4;generalize q.nx.getD 1 0=N1 at c6 hm4;generalize q.nx.getD 2 0=N2 at c7 hm4;generalize q.nx.getD 3 0=N3 at c8 hm4;obtain⟨WI,hWI⟩:=eX (sb wi);have hWs:WI.size<=200:=by rw[hWI,ai];omega
    have HI:=qH hI;have Jg:=qH (And.intro hgo (And.intro hwi (And.intro hWI (And.intro hk hm4))));clear hgo hI hs hq hsi hsq hwi hWI hk hm4 aLz;go_wp2_with fail;clear c5 c6 c7 c8;generalize (Value.slice pa k pc)=V2 at HI ⊢;go_loopg [3,25] 4 (fun gh u3 u25 wx=>∃(l:Nat) (us:List (List UInt8)),l<=4∧gh=4-l∧u25=I l∧KO n ([N0,N1,N2,N3].drop l) us.length=some m4∧us[i]?=some wi∧us.length<=n∧FwI w u3 us wx)
    case atStart=>exact⟨0,ws,by omega,rfl,rfl,by rw[<-Jg.o.2.2.2.1];exact Jg.o.2.2.2.2,Jg.o.2.1,by rw[<-Jg.o.2.2.2.1];exact hwn,HI.o⟩
    case round=>
     clear HI;obtain⟨l,us,hl4,hgh,rfl,hfw,hui,hul,hI⟩:=hrel;by_cases TN:l<4
     ·obtain⟨X,hX⟩:∃X,[N0,N1,N2,N3][l]?=some X:=⟨_,bG (by simpa using TN)⟩;obtain⟨t1,t2,hfw2⟩:=aLJ hX hfw;have hix:=aL1 l TN N0 N1 N2 N3;rw[show [N0,N1,N2,N3].getD l 0=X by rw[fM,hX];rfl]at hix;obtain⟨k2,hk2⟩:=eX (us.length);rw[<-hk2]at t1 hfw2 hul;obtain⟨pa2,pc2,ev2,-,hown⟩:=hI.row.open hk2.symm;subst ev2;have hil:=(bU hui).1;obtain⟨gw,rfl⟩:∃gw,pa2=some (J gw 0):=by
       obtain⟨g2,c2,h2,-⟩:=hI.row.form (by omega);injection h2 with h2 _;exact⟨g2,h2⟩
      have hown:wr.ownsRow 0 9 1 (Jn gw k2 pc2) k2 (us.flatMap NH.f):=hown;have cw:wr.cell? (J gw i)=some (.string WI):=by rw[Jg.o.2.2.1];exact NH.cell hI.row hui
      have CW:∀o,(wr.alloc o).cell? (J gw i)=some (.string WI):=fun o=>by rw[Jg.o.2.2.1];exact NH.cell (hI.row.alloc o) hui
      have hik:(i:Int)<k2:=by omega
      have yZ:(l:Int)<4:=by omega
      have HI:=qH hI;have HF:=qH (And.intro hfw2 (And.intro hui hk2));clear hX hfw hfw2 hui hI hk2;by_cases hXk:X=k2
      ·have hxe:((X:Int)==(k2:Int))=true:=by rw[hXk];simp
       have HLC:Hd ((⟨#[97,98,99,100]⟩:ByteArray).extract l (l+1)=sb (aT l)):=uG l TN;have hl1:(l:Int)+1<=4:=by omega
       have hl2:(0:Int)<=(l:Int)+1:=by omega
       have hl5:(l:Int)<=l+1:=by omega
       have hl6:((l:Int)+1).toNat=l+1:=by omega
       have hwr:IntKind.i64.wrap ((l:Int)+1)=(l:Int)+1:=by rw[IntKind.wrap_i64];omega
       have Lj:¬9223372036854775807<WI.size+(min (l+1) 4-l):=by omega
       go_wp2_with fail
       go_region_law (refine step_append_lies _ (by rfl) _ _ _ (by rfl) 0 9 i0 _ 1 16 underlying56 af hz0 hz1 hz2 rfl (by omega) (Jn gw k2 pc2) k2 (us.flatMap NH.f) (by rfl) ((hown.alloc _).drew) (J wr.heap.size 0) 1 1 [.string (WI++(⟨#[97,98,99,100]⟩:ByteArray).extract l (l+1))] (by rfl) (by rfl) (World.news_of_block (cs:=#[.string (WI++(⟨#[97,98,99,100]⟩:ByteArray).extract l (l+1))]) (t:=9) (fr:=(0,0)) (heap_alloc_new wr _)) (by intro u hu;simp at hu;rw[hu];rfl) (by omega) (by unfold maxLen;omega) (by omega) (by simp) (wr.heap.size+1) (by simp) ?_;intro gg cap2 w7 gV hgrow hat fJ)
       all_goals
        have AY:Hd (FwI w (Jn gg (k2+1) cap2) (us++[wi++aT l]) w7):=by
         refine⟨jq HF.o.2.2.symm (by rw[HLC.o,Jg.o.2.2.1,dm];rfl) gV,fun q hq=>?_,((HI.o.md.alloc _).drew).grown hgrow (fun g hg hlt=>absurd hlt (by have:=HI.o.fr g hg;omega)),fun k z hz=>?_⟩
         ·cases hq;rcases hat with e | e
          ·exact HI.o.fr gg e
          ·have:=HI.o.md.size;show _<=gg;omega
         ·by_cases hkl:k<us.length
          ·rw[jG hkl]at hz;exact HI.o.len k z hz
          ·rw[mW (by omega)]at hz;have hz:=iI hz;obtain rfl:z=wi++aT l:=by simpa using hz
           have:=HI.o.len i wi HF.o.2.1;rw[length_append];show wi.length+1<=k;omega
        have HF2:Hd (KO n ([N0,N1,N2,N3].drop (l+1)) (k2+1)=some m4):=by
         have h:=HF.o.1;rw[aP hXk]at h;exact h
        clear gV hgrow hat fJ hown cw CW hix;go_wp2;go_roundg (4-(l+1))
        case measure=>omega
        case rel=>exact⟨l+1,us++[wi++aT l],by omega,rfl,by go_num,by rw[length_append,<-HF.o.2.2];exact HF2.o,by rw[jG hil];exact HF.o.2.1,by rw[length_append,<-HF.o.2.2];show k2+1<=n;omega,AY.o⟩
      ·have hxe:((X:Int)==(k2:Int))=false:=by rw[beq_eq_false_iff_ne];omega
       have HF2:Hd (KO n ([N0,N1,N2,N3].drop (l+1)) k2=some m4):=by
        have h:=HF.o.1;rw[aU hXk]at h;exact h
       clear hown cw CW;go_wp2;go_roundg (4-(l+1))
       case measure=>omega
       case rel=>exact⟨l+1,us,by omega,rfl,by go_num,by rw[<-HF.o.2.2];exact HF2.o,HF.o.2.1,by have:=HF.o.2.2;omega,HI.o⟩
     ·obtain rfl:l=4:=by omega
      have HI:=qH hI;have HF2:=qH (dY hfw);have hu1:=(bU hui).1;clear hI hfw hui;go_wp2;go_roundg (n-(i+1))
      case measure=>omega
      case rel=>exact⟨i+1,us,by go_num,by omega,rfl,by rw[HF2.o];exact Jg.o.1,by omega,hul,HI.o⟩
  ·obtain rfl:i=n:=by omega
   have HE:Hd (ws.length=i):=by
    have h:=hgo;rw[drop_of_length_le (by have:=HN.o;omega)]at h;rw[<-hk];exact dY h
   have HI:=qH hI;have h1:¬(i:Int)<k:=by have:=HE.o;omega
   clear hI hgo hk;go_wp2;go_ret;exact⟨_,rfl,ws,HI.o.row,HE.o,HI.o.md⟩
theorem TY(w:World)(m:Nat)(aC:List iL)(vv:M2.View)(hv:VF vv)(hx:MFx vv aC)(hM:lC w m aC):J1 18 #[Jx m 0] w fun e w'=>∃(A:Nat) (s:ByteArray),e=.returned (.tuple #[I A,.string s])∧(∀(j:Nat) (q:iL),aC[j]?=some q->q.en.length<=A)∧A<=800∧Mod No w w':=by
 obtain⟨vs,hbm,hst⟩:=hM;have h0:=hx.pos;have hl:=hx.le;have HFW:=qH fun wx (hm:Mod No w wx)=>Md wx vs aC vv hx (hst.no hm)
 have Ce:=qH fun(j:Nat) (q:iL) (hq:aC[j]?=some q)=>(aDt hv hx hq).1
 obtain⟨g,cap,rfl,-,-⟩:=hst.form (by omega);obtain⟨n,hn⟩:=eX (aC.length);have HN:=qH hn;rw[<-hn]at h0 hl hst hbm HFW;have HST:=qH hst;have HB:=qH hbm;have b0:=hbm.cell 0 rfl;clear hst hx hv hn hbm;go_enter func18,ntmps18;go_wp2_with fail;go_loopg [4,5,16] n (fun gh u4 u5 u16 wr=>∃(i A B:Nat),u16=I i∧i<=n∧gh=n-i∧u4=I A∧u5=I B∧B<n∧A<=800∧(∀(j:Nat) (q:iL),j<i->aC[j]?=some q->q.en.length<=A)∧Mod No w wr)
 case atStart=>exact⟨0,0,0,rfl,by omega,rfl,rfl,rfl,h0,by omega,fun j q hj=>by omega,Mod.refl _ _⟩
 case round=>
  obtain⟨i,A,B,rfl,hin,hgi,rfl,rfl,hBn,hA8,hall,hm⟩:=hrel;by_cases hlt:i<n
  ·have hii:(i:Int)<n:=by omega
   obtain⟨q,hq⟩:∃q,aC[i]?=some q:=⟨aC[i]'(by have:=HN.o;omega),bG _⟩;obtain⟨S0,S1,S2,S3,S4,P0,P1,P2,P3,hSM,s0,s1,s2,s3,s4,s5,s6,s7,s8⟩:=aAS (HST.o.no hm) i q hq;have hS0:S0.size=q.en.length:=by rw[hSM.1,aZ]
   have h8:=Ce.o i q hq;have lF:=qH ((hm.alloc (.cells #[.string S0,.string S1,.string S2,.string S3,.string S4,I P0,I P1,I P2,I P3] 104)));have HA:=qH hall;have HQ:=qH (And.intro hq hS0);by_cases hgt:A<S0.size
   ·have aL9:(A:Int)<S0.size:=by omega
    have Oj:Hd (∀(j:Nat) (q:iL),j<i+1->aC[j]?=some q->q.en.length<=S0.size):=fun j q' hj hq'=>by
     by_cases e:j=i
     ·subst e;rw[HQ.o.1]at hq';cases hq';exact Nat.le_of_eq HQ.o.2.symm
     ·have:=HA.o j q' (by omega) hq';omega
    have hS8:S0.size<=800:=by omega
    clear hm hq hSM hall hS0;go_wp2;go_roundg (n-(i+1))
    case measure=>omega
    case rel=>exact⟨i+1,S0.size,i,by go_num,by omega,rfl,rfl,rfl,by omega,hS8,Oj.o,lF.o⟩
   ·have aL9:¬(A:Int)<S0.size:=by omega
    have Oj:Hd (∀(j:Nat) (q:iL),j<i+1->aC[j]?=some q->q.en.length<=A):=fun j q' hj hq'=>by
     by_cases e:j=i
     ·subst e;rw[HQ.o.1]at hq';cases hq';have:=HQ.o.2;omega
     ·exact HA.o j q' (by omega) hq'
    clear hm hq hSM hall hS0;go_wp2;go_roundg (n-(i+1))
    case measure=>omega
    case rel=>exact⟨i+1,A,B,by go_num,by omega,rfl,rfl,rfl,by omega,hA8,Oj.o,lF.o⟩
  ·obtain rfl:i=n:=by omega
   have hnn:¬(i:Int)<i:=by omega
   have HA:=qH hall;have HM:=qH hm;have b1:=(HB.o.mod hm (fun x=>x)).cell 0 rfl;clear hall hm;go_wp2_with fail;refine(HFW.o _ HM.o).mono ?_;rintro e w1 ⟨u,ws,rfl,hrow,hwl,m1⟩;obtain⟨gw,cw,rfl,-,-⟩:=hrow.form (by have:=HN.o;omega);have DN:=qH (HM.o.no m1);obtain⟨z,hz⟩:∃z,ws[B]?=some z:=⟨ws[B]'(by have:=HN.o;omega),bG _⟩;obtain⟨ZB,dw⟩:=eX (sb z);have hwn:=hwl;rw[hwn]at hrow ⊢;have cz:w1.cell? (J gw B)=some (.string ZB):=by rw[dw];exact NH.cell hrow hz
   have hBi:¬(i:Int)<=B:=by omega
   have hBj:(B:Int)<i:=by omega
   clear hrow hwl hz dw hwn m1;go_wp2_with fail;go_quiet (fail);go_wp2;go_ret2;exact⟨A,ZB,rfl,fun j q hq=>HA.o j q (by have:=HN.o;have:=(bU hq).1;omega) hq,hA8,DN.o.drewN _⟩
end
end Go.Proofs.YtoebidlghdidoaaGreatDoor
