import Derived.Test.YtoebidlghdidoaaGreatDoorBG
import Derived.Test.YtoebidlghdidoaaGreatDoorBI
set_option maxHeartbeats 8000000
set_option maxRecDepth 100000
namespace Go.Proofs.YtoebidlghdidoaaGreatDoor
open Tx Th M2 Tryz List
section
open Go.RowKit
attribute [local go_sem ↓] Go.wp_at_zero Go.wp_at_succ
variable {w wx wy w':World} {b l M:Nat} {ps:List (Th.LR × Value)} {aC:List iL} {cs:List Value}
def aIA:Code->Option Code
 | .loop c=>some c
 | .seq a b=>match aIA a with
  | some c=>some c
  | none=>aIA b
 | .block _ c=>aIA c
 | .scope c=>aIA c
 | .cond _ a b=>match aIA a with
  | some c=>some c
  | none=>aIA b
 | _=>none
structure DC(w:World)(A B S N n m gx cx gy cy:Nat)(x y:List iL)(v v':M2.View)(WI:ByteArray)(wi:List UInt8)(a b Q P R:Nat):Prop where
 hn:n=x.length
 hm:m=y.length
 hN:N=n*m
 hNp:0<N
 rx:Row BO w (Jn gx n cx) x
 ry:Row BO w (Jn gy m cy) y
 fx:MFx v x
 fy:MFx v' y
 vx:VF v
 vy:VF v'
 bA:aG w A [Jn gx n cx] 99
 bB:aG w B [Jn gy m cy] 99
 hW:WI=⟨wi.toArray⟩
 ws:WI.size<=40000
 an:a<n
 bm:b<m
 hS:w.heap.size=S
 sQ:S<Q
 sP:S<P
 sR:S<R
theorem DL.no{S N:Nat}{x y:List iL}{r:List UInt8 × Bool}{i:Nat}{WI:ByteArray}{wi:List UInt8}{a Q P R:Nat}{ws:List (List UInt8 × Nat × Nat)}{mt:List Bool}{u:Value}(h:DL w S N x y r i WI wi a b Q P R l ws mt u wx)(hm:Mod No wx wy):DL w S N x y r i WI wi a b Q P R l ws mt u wy:=⟨h.l4,h.wi,h.go,h.di,h.dp,h.dw.no hm,h.bq.mod hm (fun h=>h),h.bp.mod hm (fun h=>h),h.br.mod hm (fun h=>h),h.ne⟩
theorem Calls.fact{P:Program}{f:FuncId}{args:Array Value}{R:Ending->World->Prop}(h:Calls P f args w R):∃e w',R e w':=let ⟨e,w',_,r,_⟩:=h []
 ⟨e,w',r⟩
structure Cs where
 (c2 c3 c8 c15 c16 c17 c18 c19 c20 c21 c22 c23 c24 c25 c26 c27 c28 c29 c30 c31 c32 c33 c34 c35 c36 c37 c38 c39 c40 c41 c42 c43 c44 c45 c46 c47 c48 c49 c50 c51 c52 c53 c54 c55 c56 c57 c58 c59 c60 c61 c62 c63 c64 c65 c66 c67 c68 c69 c70 c71 c72 c73 c74 c75 c76 c77 c78 c79 c80 c81 c82 c83 c84 c85:Value)
structure Us where
 (u4 u5 u13 u14 u86 u87 u88 u89 u90 u91 u92 u93 u94 u95 u96 u97 u98 u99 aKz aKA aKB aKC aKD u105 aKE aKF aKG aKH aKI aKJ aKK aKL aKM aKN aKO aKP aKQ u119 aKR aKS aKT aKU u124 aKV aKW u127 aKX aKY aKZ u131 aK1 aK2 aK3 aK4 aK5 aK6 u138 u139 aK7 aK8 aK9 aLa aLb aLc aLd aLe aLf aLg aLh aLi u152 aLj u154 aLk aLl aLm aLn:Value)
def DFr(A B S N Q P R:Nat)(k:Cs)(u:Us)(s l:Value):Act:=⟨(Jx A 0::Jx B 0::k.c2::k.c3::u.u4::u.u5::Jn S N N::s::k.c8::Jx Q 0::Jx P 0::Jx R 0::l::u.u13::u.u14::k.c15::k.c16::k.c17::k.c18::k.c19::k.c20::k.c21::k.c22::k.c23::k.c24::k.c25::k.c26::k.c27::k.c28::k.c29::k.c30::k.c31::k.c32::k.c33::k.c34::k.c35::k.c36::k.c37::k.c38::k.c39::k.c40::k.c41::k.c42::k.c43::k.c44::k.c45::k.c46::k.c47::k.c48::k.c49::k.c50::k.c51::k.c52::k.c53::k.c54::k.c55::k.c56::k.c57::k.c58::k.c59::k.c60::k.c61::k.c62::k.c63::k.c64::k.c65::k.c66::k.c67::k.c68::k.c69::k.c70::k.c71::k.c72::k.c73::k.c74::k.c75::k.c76::k.c77::k.c78::k.c79::k.c80::k.c81::k.c82::k.c83::k.c84::k.c85::u.u86::u.u87::u.u88::u.u89::u.u90::u.u91::u.u92::u.u93::u.u94::u.u95::u.u96::u.u97::u.u98::u.u99::u.aKz::u.aKA::u.aKB::u.aKC::u.aKD::u.u105::u.aKE::u.aKF::u.aKG::u.aKH::u.aKI::u.aKJ::u.aKK::u.aKL::u.aKM::u.aKN::u.aKO::u.aKP::u.aKQ::u.u119::u.aKR::u.aKS::u.aKT::u.aKU::u.u124::u.aKV::u.aKW::u.u127::u.aKX::u.aKY::u.aKZ::u.u131::u.aK1::u.aK2::u.aK3::u.aK4::u.aK5::u.aK6::u.u138::u.u139::u.aK7::u.aK8::u.aK9::u.aLa::u.aLb::u.aLc::u.aLd::u.aLe::u.aLf::u.aLg::u.aLh::u.aLi::u.u152::u.aLj::u.u154::u.aLk::u.aLl::u.aLm::u.aLn::[]).toArray,[]⟩
section
variable {w:World} {A B S N n m gx cx gy cy:Nat} {x y:List iL} {v v':M2.View} {r:List UInt8 × Bool} {i:Nat} {WI:ByteArray} {wi:List UInt8} {a b Q P R:Nat} {Z:Exit->Act->World->Prop} {k:Cs} {u:Us} {s:Value} {ws:List (List UInt8 × Nat × Nat)} {mt:List Bool} {wr:World}
theorem aJC(hC:DC w A B S N n m gx cx gy cy x y v v' WI wi a b Q P R)(hL:DL w S N x y r i WI wi a b Q P R l ws mt s wr)(hret:∀(tm:Array Value) (wx:World),tm.getD 4 undef=.string ⟨r.1.toArray⟩->tm.getD 5 undef=.bool r.2->aJB x y r->Mod No w wx->Z .ret ⟨tm,[]⟩ wx)(aJK:∀(u:Us) (s:Value) (ws:List (List UInt8 × Nat × Nat)) (mt:List Bool) (wx:World),DL w S N x y r i WI wi a b Q P R 4 ws mt s wx->Z (.exit 2) (DFr A B S N Q P R k u s (I 4)) wx)(aKj:∀(u:Us) (s:Value) (ws:List (List UInt8 × Nat × Nat)) (mt:List Bool) (wx:World),DL w S N x y r i WI wi a b Q P R (l+1) ws mt s wx->Z .normal (DFr A B S N Q P R k u s (I ((l:Int)+1))) wx):Code.wp prog (((f27.body.bind aIA).bind aIA).getD .skip) Z (DFr A B S N Q P R k u s (I l)) wr:=by
 have aLo:=qH hret;have HEX:=qH aJK;have HNO:=qH aKj;have hl4:=hL.l4;have hdm:=hL.go;clear hret aJK aKj;conv=>arg 2;whnf
 cases u;cases k;unfold DFr
 dsimp only
 refine Code.wp_mono NoPanic.imp ?_;by_cases hll:l<4
 ·have yZ:(l:Int)<4:=by omega
  obtain⟨X,hXe⟩:=eX (⟨((I4 x a).sd.getD l []).toArray⟩:ByteArray);obtain⟨Y,hYe⟩:=eX (⟨((I4 y b).sd.getD l []).toArray⟩:ByteArray);obtain⟨N1,hN1⟩:=eX ((I4 x a).nx.getD l 0);obtain⟨N2,hN2⟩:=eX ((I4 y b).nx.getD l 0);obtain⟨k2,hk2⟩:=eX (ws.length);obtain⟨pa2,pc2,ev2,-,-⟩:=hL.dw.ws.open hk2.symm;subst ev2;have hik:=(bU hL.wi).1;obtain⟨gv,rfl⟩:∃gv,pa2=some (J gv 0):=by
   obtain⟨g2,c2,h2,-⟩:=hL.dw.ws.form (by omega);injection h2 with h2 _;exact⟨g2,h2⟩
  have q0:=hL.bq.cell 0 rfl;have p5:=aJt hL.bp hll;have r5:=aJt hL.br hll;rw[<-hN1]at p5;rw[<-hN2]at r5;have hQl:=hL.bq.lt;have hPl:=hL.bp.lt;have hRl:=hL.br.lt;have CA:∀(b o:Nat) (O:Obj),b<wr.heap.size->(wr.alloc O).cell? (J b o)=wr.cell? (J b o):=fun b o O h=>by
   simp only[World.cell?,Below.heap_alloc wr O b h]
  have hl1:(l:Int)+1<=4:=by omega
  have hl2:(0:Int)<=(l:Int)+1:=by omega
  have hl5:(l:Int)<=l+1:=by omega
  have hl6:((l:Int)+1).toNat=l+1:=by omega
  have hwr:IntKind.i64.wrap ((l:Int)+1)=(l:Int)+1:=by rw[IntKind.wrap_i64];omega
  have hWs:=hC.ws;have Lj:¬9223372036854775807<WI.size+(min (l+1) 4-l):=by omega
  have aKy:ws.length<=40000:=hL.di.le hC.fx.le hC.fy.le;have HXY:=qH (And.intro hXe (And.intro hYe (And.intro hN1 (And.intro hN2 hk2))));have HL:=qH hL;have HC:=qH hC;have HG:=qH hdm;clear hXe hYe hN1 hN2 hk2 hL hC hdm;go_wp2_with fail
  go_region
  have HV:Hd (WI++(⟨#[97,98,99,100]⟩:ByteArray).extract l (l+1)=⟨(wi++aT l).toArray⟩):=qH <| by
   rw[uG l hll,HC.o.hW,oD]
  have hVs:(WI++(⟨#[97,98,99,100]⟩:ByteArray).extract l (l+1)).size<=40001:=by
   rw[HV.o,aZ,length_append];have e:WI.size=wi.length:=by rw[HC.o.hW,aZ]
   show wi.length+1<=_;omega
  generalize WI++(⟨#[97,98,99,100]⟩:ByteArray).extract l (l+1)=V at HV hVs ⊢;have HM:=qH (((Mod.refl No wr).alloc (.cells #[.string V,I N1,I N2] 121)).drew);have HZ:Hd (aG (wr.alloc (.cells #[.string V,I N1,I N2] 121)).drew wr.heap.size [.string V,I N1,I N2] 121):=heap_alloc_new wr _;generalize (wr.alloc (.cells #[.string V,I N1,I N2] 121)).drew=wd at HM HZ ⊢;have HLd:=qH (HL.o.no HM.o);generalize wr.heap.size=T at HZ hQl hPl hRl ⊢;clear HL CA q0 p5 r5 HM hl1 hl2 hl5 hl6 Lj hwr;have s1:wd.cell? (J P (1+l))=some (.string X):=by rw[HXY.o.1];exact aIO HLd.o.bp hll
  have t1:wd.cell? (J R (1+l))=some (.string Y):=by rw[HXY.o.2.1];exact aIO HLd.o.br hll
  have hXl:X.toList=(I4 x a).sd.getD l []:=by rw[toList_data,HXY.o.1]
  have hYl:Y.toList=(I4 y b).sd.getD l []:=by rw[toList_data,HXY.o.2.1]
  by_cases hsd:(I4 x a).sd.getD l []=(I4 y b).sd.getD l []
  ·have hcmp:(X.toList==Y.toList)=true:=by rw[hXl,hYl,hsd];exact beq_self_eq_true _
   have aKr:N1<n:=by
    have h:=HC.o.fx.inn a _ l (bG (by have:=HC.o.an;have:=HC.o.hn;omega)) hll;rw[<-oz (bG (by have:=HC.o.an;have:=HC.o.hn;omega)),<-HXY.o.2.2.1,<-HC.o.hn]at h;exact h
   have aKs:N2<m:=by
    have h:=HC.o.fy.inn b _ l (bG (by have:=HC.o.bm;have:=HC.o.hm;omega)) hll;rw[<-oz (bG (by have:=HC.o.bm;have:=HC.o.hm;omega)),<-HXY.o.2.2.2.1,<-HC.o.hm]at h;exact h
   obtain⟨PM,hPM⟩:=eX (N1*m);obtain⟨K,hK⟩:=eX (PM+N2);have hKN:K<N:=by
    have h:=aJo aKr aKs;rw[<-hPM,<-hK,<-HC.o.hN]at h;exact h
   have hNl:N<=40000:=by
    have h1:=HC.o.fx.le;have h2:=HC.o.fy.le;have:n*m<=200*200:=Nat.mul_le_mul (by have:=HC.o.hn;omega) (by have:=HC.o.hm;omega);have:=HC.o.hN;omega
   have hmul:(N1:Int)*(m:Int)=PM:=by rw[hPM];push_cast;rfl
   have hsum:(PM:Int)+(N2:Int)=K:=by omega
   have hwP:IntKind.i64.wrap (PM:Int)=PM:=by rw[IntKind.wrap_i64];omega
   have hwK:IntKind.i64.wrap (K:Int)=K:=by rw[IntKind.wrap_i64];omega
   have hKi:(K:Int)<N:=by omega
   have HPK:=qH (And.intro hPM hK);clear hXl hYl hPM hK;go_wp2_with fail;go_quiet (fail);have HLe:=qH (HLd.o.no ((Mod.refl No wd).drewN nq));have HZe:=qH (HZ.o.mod ((Mod.refl No wd).drewN nq) (fun h=>h));generalize wd.drewN nq=we at HLe HZe ⊢;clear HLd HZ s1 t1 hcmp;have z1:=HZe.o.cell 1 rfl;have z2:=HZe.o.cell 2 rfl;have hbB:=HC.o.bB.mod HLe.o.dw.md (fun h=>h);have b0:=hbB.cell 0 rfl;clear hbB;go_wp2_with fail;go_quiet (fail);rename_i nq2;have HLf:=qH (HLe.o.no ((Mod.refl No we).drewN nq));have HZf:=qH (HZe.o.mod ((Mod.refl No we).drewN nq) (fun h=>h));generalize we.drewN nq=wf at HLf HZf ⊢;clear HLe HZe z1 z2 b0;obtain⟨bt,hbt⟩:∃b,mt[K]?=some b:=⟨mt[K]'(by rw[HLf.o.di.ml,<-HC.o.hn,<-HC.o.hm,<-HC.o.hN];exact hKN),bG _⟩;have aIF:(I4 x a).nx.getD l 0*y.length+(I4 y b).nx.getD l 0=K:=by rw[<-HXY.o.2.2.1,<-HXY.o.2.2.2.1,<-HC.o.hm,<-HPK.o.1,<-HPK.o.2]
   have cm:=GH HLf.o.dw.mt hbt
   cases bt with
   | true=>
    have HL2:Hd (DL w S N x y r i WI wi a b Q P R (l+1) ws mt (Jn gv k2 pc2) wf):=by
     refine⟨by omega,HLf.o.wi,?_,HLf.o.di,⟨HLf.o.dp.1,fun j hj=>?_⟩,HLf.o.dw,HLf.o.bq,HLf.o.bp,HLf.o.br,HLf.o.ne⟩
     ·have h:=HG.o;rw[show 200010-5*i-l=(200010-5*i-(l+1))+1 by omega,aKp HLf.o.wi HLf.o.dp.1 hll hsd (by rw[aIF];exact hbt)]at h;exact h
     ·by_cases e:j=l
      ·subst e;exact⟨hsd,by rw[aIF];exact hbt⟩
      ·exact HLf.o.dp.2 j (by omega)
    clear hbt HLf HG;go_wp2;refine HNO.o ⟨_,_,_,_,_,_,_,_,_,_,_,_,_,_,_,_,_,_,_,_,_,_,_,_,_,_,_,_,_,_,_,_,_,_,_,_,_,_,_,_,_,_,_,_,_,_,_,_,_,_,_,_,_,_,_,_,_,_,_,_,_,_,_,_,_,_,_,_,_,_,_,_,_,_,_,_,_⟩ _ ws mt _ HL2.o
   | false=>
    have HU2:Hd (Th.DI x y (ws++[(wi++aT l,N1,N2)]) (mt.set K true) i):=by
     have h:=HLf.o.di.push HC.o.fx HC.o.fy HLf.o.wi hll hsd (by rw[aIF];exact hbt);rw[aIF,<-HXY.o.2.2.1,<-HXY.o.2.2.2.1]at h;exact h
    have HD2:Hd (Dp x y (mt.set K true) a b (l+1)):=by
     refine⟨HLf.o.dp.1,fun j hj=>?_⟩;by_cases e:j=l
     ·subst e;exact⟨hsd,by rw[aIF];exact getElem?_set_self (bU hbt).1⟩
     ·exact(HLf.o.dp.up K).2 j (by omega)
    have HG2:Hd (dM x y (200010-5*i-(l+1)) i (l+1) (ws++[(wi++aT l,N1,N2)]) (mt.set K true)=r):=by
     have h:=HG.o;rw[show 200010-5*i-l=(200010-5*i-(l+1))+1 by omega,aKq HLf.o.wi HLf.o.dp.1 hll hsd (by rw[aIF];exact hbt),aIF,<-HXY.o.2.2.1,<-HXY.o.2.2.2.1]at h;exact h
    have fm:=HLf.o.dw.mt.free K;have hsQ:=HC.o.sQ;have hsP:=HC.o.sP;have hsR:=HC.o.sR;have hSl:=HLf.o.dw.ne;have aLp:=hSl gv rfl;have HWc:Hd (DW w S N (mt.set K true) (Jn gv k2 pc2) ws (wf.setCell (J S K) (.bool true))∧aG (wf.setCell (J S K) (.bool true)) Q [.string WI,I a,I b] 121∧aG (wf.setCell (J S K) (.bool true)) P (BO.f (I4 x a)) 104∧aG (wf.setCell (J S K) (.bool true)) R (BO.f (I4 y b)) 104∧aG (wf.setCell (J S K) (.bool true)) T [.string V,I N1,I N2] 121):=⟨⟨aB4 HLf.o.dw.mt hbt true,HLf.o.dw.ws.other (a:=J S K) (fun e=>by have:=HLf.o.dw.ne S e;omega) _,HLf.o.dw.ne,HLf.o.dw.md.setCell (a:=J S K) (fun h=>absurd h (by have:=HC.o.hS;show ¬S<w.heap.size;omega)) _⟩,HLf.o.bq.other (a:=J S K) (by show Q≠S;omega) _,HLf.o.bp.other (a:=J S K) (by show P≠S;omega) _,HLf.o.br.other (a:=J S K) (by show R≠S;omega) _,HZf.o.other (a:=J S K) (by show T≠S;omega) _⟩;have HWi:=qH HLf.o.wi;have YZ:=qH HLf.o.ne;generalize hwc:wf.setCell (J S K) (.bool true)=wc at HWc;have d0:=HWc.o.2.2.2.2.cell 0 rfl;have d1:=HWc.o.2.2.2.2.cell 1 rfl;have d2:=HWc.o.2.2.2.2.cell 2 rfl;have hTc:=HWc.o.2.2.2.2.lt;have hQc:=HWc.o.2.1.lt;have hPc:=HWc.o.2.2.1.lt;have hRc:=HWc.o.2.2.2.1.lt;have hown:wc.ownsRow 0 121 3 (Jn gv k2 pc2) k2 (ws.flatMap MtE.f):=by
     have h:wc.ownsRow 0 121 3 (Jn gv k2 pc2) ws.length (ws.flatMap MtE.f):=HWc.o.1.ws;rw[<-HXY.o.2.2.2.2]at h;exact h
    have hk4:k2<=40000:=by have:=HXY.o.2.2.2.2;omega
    obtain⟨i0,af,hz0,hz1,hz2⟩:=info_parts aJb;clear hbt hsd aIF HLf HZf HG;go_wp2_with (at_builtin;refine wpList_append_lies _ rfl _ _ 122 rfl 0 121 i0 _ 3 32 underlying122 af hz0 hz1 hz2 rfl (by omega) (Jn gv k2 pc2) k2 (ws.flatMap MtE.f) rfl (hown.alloc _) (J wc.heap.size 0) 1 1 [.string V,I N1,I N2] rfl rfl (World.news_of_block (cs:=#[.string V,I N1,I N2]) (t:=121) (fr:=(0,0)) (heap_alloc_new wc _)) (by intro u hu;simp at hu;rcases hu with rfl | rfl | rfl <;> rfl) (by omega) (by unfold maxLen;omega) (by omega) (by simp) (wc.heap.size+1) (by simp) ?_);intro gg cap2 w7 gV hgrow hat fJ;have vY:Row MtE w7 (Jn gg (k2+1) cap2) (ws++[(wi++aT l,N1,N2)]):=jq HXY.o.2.2.2.2.symm (by rw[HV.o];rfl) gV;have Cb:gg=gv∨wc.heap.size<gg:=by
     rcases hat with e | e
     ·exact Or.inl (dY e).symm
     ·exact Or.inr (by omega)
    have HL7:Hd (DL w S N x y r i WI wi a b Q P R (l+1) (ws++[(wi++aT l,N1,N2)]) (mt.set K true) (Jn gg (k2+1) cap2) w7):=by
     refine⟨by omega,by rw[jG (by omega)];exact HWi.o,HG2.o,HU2.o,HD2.o,⟨(HWc.o.1.mt.alloc _).grown hgrow (Or.inr (fun e=>by have:=HWc.o.1.ne S e.symm;omega)),vY,fun x hx=>?_,(HWc.o.1.md.alloc _).grown hgrow (fun x hx hlt=>absurd hlt (by have:=HWc.o.1.ne x hx;have:=HC.o.hS;omega))⟩,(HWc.o.2.1.alloc _).grown hgrow (fun e=>(YZ.o Q e.symm).1 rfl),(HWc.o.2.2.1.alloc _).grown hgrow (fun e=>(YZ.o P e.symm).2.1 rfl),(HWc.o.2.2.2.1.alloc _).grown hgrow (fun e=>(YZ.o R e.symm).2.2 rfl),fun x hx=>?_⟩
     ·cases hx;rcases Cb with e | e
      ·rw[e];exact aLp
      ·show S<gg;omega
     ·cases hx;rcases Cb with e | e
      ·rw[e];exact YZ.o gv rfl
      ·exact⟨by show gg≠Q;omega,by show gg≠P;omega,by show gg≠R;omega⟩
    clear vY gV hgrow hat fJ hown hwc d0 d1 d2 Cb;go_wp2;refine HNO.o ⟨_,_,_,_,_,_,_,_,_,_,_,_,_,_,_,_,_,_,_,_,_,_,_,_,_,_,_,_,_,_,_,_,_,_,_,_,_,_,_,_,_,_,_,_,_,_,_,_,_,_,_,_,_,_,_,_,_,_,_,_,_,_,_,_,_,_,_,_,_,_,_,_,_,_,_,_,_⟩ _ _ _ _ HL7.o
  ·have hcmp:(X.toList==Y.toList)=false:=by rw[hXl,hYl,beq_eq_false_iff_ne];exact hsd
   clear hXl hYl;go_wp2_with fail;go_quiet (fail);have HLe:=qH (HLd.o.no ((Mod.refl No wd).drewN nq));have HZe:=qH (HZ.o.mod ((Mod.refl No wd).drewN nq) (fun h=>h));generalize wd.drewN nq=we at HLe HZe ⊢;clear HLd HZ s1 t1 hcmp;have hpa:=(bG (show a<x.length by have:=HC.o.an;have:=HC.o.hn;omega));have hpb:=(bG (show b<y.length by have:=HC.o.bm;have:=HC.o.hm;omega));have aKr:N1<x.length:=by
    have h:=HC.o.fx.inn a _ l hpa hll;rw[<-oz hpa,<-HXY.o.2.2.1]at h;exact h
   have aKs:N2<y.length:=by
    have h:=HC.o.fy.inn b _ l hpb hll;rw[<-oz hpb,<-HXY.o.2.2.2.1]at h;exact h
   have hs1:((I4 x a).sd.getD l []).length<=1000:=by
    have h:=(aDt HC.o.vx HC.o.fx hpa).2 l hll;rw[<-oz hpa]at h;omega
   have hs2:((I4 y b).sd.getD l []).length<=1000:=by
    have h:=(aDt HC.o.vy HC.o.fy hpb).2 l hll;rw[<-oz hpb]at h;omega
   have aKg:Hd (∀wx,Mod No w wx->J1 50 #[Jn gx n cx,Jn gy m cy,.agg #[.string V,I N1,I N2],.string X,.string Y] wx fun e w'=>e=.returned (.string ⟨(ptM x y N1 N2 ((I4 x a).sd.getD l []) ((I4 y b).sd.getD l [])).toArray⟩)∧Pt2 x y N1 N2 ((I4 x a).sd.getD l []) ((I4 y b).sd.getD l []) (ptM x y N1 N2 ((I4 x a).sd.getD l []) ((I4 y b).sd.getD l []))∧Mod No wx w'):=fun wx hm=>by
    rw[HXY.o.1,HXY.o.2.1];exact aJs wx _ _ x y v v' HC.o.fx HC.o.fy (HC.o.rx.no hm) (HC.o.ry.no hm) V N1 N2 aKr aKs _ _ hs1 hs2 hsd
   obtain⟨e9,w9,-,hpt,-⟩:=Calls.fact (aKg.o w (Mod.refl _ _));have HE:Hd ((wi++aT l++ptM x y N1 N2 ((I4 x a).sd.getD l []) ((I4 y b).sd.getD l []),true)=r):=by
    have h:=HG.o;rw[show 200010-5*i-l=(200009-5*i-l)+1 by omega,aKe HLe.o.wi HLe.o.dp.1 hll hsd,<-HXY.o.2.2.1,<-HXY.o.2.2.2.1]at h;exact h
   have HPs:Hd (Th.Parts x y (wi++aT l++ptM x y N1 N2 ((I4 x a).sd.getD l []) ((I4 y b).sd.getD l []))):=HLe.o.di.said HC.o.fx.le HC.o.fy.le HLe.o.wi hll (by rw[<-HXY.o.2.2.1,<-HXY.o.2.2.2.1];exact hpt);have hus:=hpt.2.1;clear hpt HG e9 w9 hpa hpb hs1 hs2 hsd;generalize ptM x y N1 N2 ((I4 x a).sd.getD l []) ((I4 y b).sd.getD l [])=U at aKg HE HPs hus;obtain⟨UB,hUB⟩:=eX (⟨U.toArray⟩:ByteArray);have hUs:UB.size<=200:=by rw[hUB,aZ];exact hus
   have HPT:Hd (∀wx,Mod No w wx->J1 50 #[Jn gx n cx,Jn gy m cy,.agg #[.string V,I N1,I N2],.string X,.string Y] wx fun e w'=>e=.returned (.string UB)∧Mod No wx w'):=fun wx hm=>(aKg.o wx hm).mono fun _ _ h=>⟨by rw[hUB];exact h.1,h.2.2⟩
   have HU:=qH hUB;clear aKg hUB hus;have Lj:¬9223372036854775807<V.size+UB.size:=by omega
   have hne:Nonempty (After we):=⟨⟨we,Mod.refl _ _⟩⟩;have z0:=fun(x:After we)=>(HZe.o.mod x.property (fun y=>y)).cell 0 rfl
   have z1:=fun(x:After we)=>(HZe.o.mod x.property (fun y=>y)).cell 1 rfl
   have z2:=fun(x:After we)=>(HZe.o.mod x.property (fun y=>y)).cell 2 rfl
   have e0:=fun(x:After we)=>((HC.o.bA.mod HLe.o.dw.md (fun y=>y)).mod x.property (fun y=>y)).cell 0 rfl
   have e1:=fun(x:After we)=>((HC.o.bB.mod HLe.o.dw.md (fun y=>y)).mod x.property (fun y=>y)).cell 0 rfl
   have e2:∀x:After we,x.val.cell? (J P (1+l))=some (.string X):=fun z=>by rw[HXY.o.1];exact aIO (HLe.o.bp.mod z.property (fun y=>y)) hll
   have e3:∀x:After we,x.val.cell? (J R (1+l))=some (.string Y):=fun z=>by rw[HXY.o.2.1];exact aIO (HLe.o.br.mod z.property (fun y=>y)) hll
   go_wp2_with fail;refine aIw (by kernel_rfl) (by kernel_rfl) ?_;repeat (quiet_step (exact Calls.calm (HPT.o _ (HLe.o.dw.md.no (Subtype.property _)))))
   refine wpQuiet_nil ?_;rintro _ ⟨z,rfl⟩;go_wp2_with fail;refine aLo.o _ _ ?_ ?_ ?_ (HLe.o.dw.md.no z.property)
   ·show Value.string (V++UB)=_;rw[HV.o,HU.o,oD,<-HE.o]
   ·rw[<-HE.o];rfl
   ·rw[<-HE.o];exact HPs.o
 ·obtain rfl:l=4:=by omega
  have HL:=qH hL;clear hL hdm hC;go_wp2_with fail;refine HEX.o ⟨_,_,_,_,_,_,_,_,_,_,_,_,_,_,_,_,_,_,_,_,_,_,_,_,_,_,_,_,_,_,_,_,_,_,_,_,_,_,_,_,_,_,_,_,_,_,_,_,_,_,_,_,_,_,_,_,_,_,_,_,_,_,_,_,_,_,_,_,_,_,_,_,_,_,_,_,_⟩ _ ws mt _ HL.o
theorem aKh(hC:DC w A B S N n m gx cx gy cy x y v v' WI wi a b Q P R)(hL:DL w S N x y r i WI wi a b Q P R 0 ws mt s wr)(hret:∀(tm:Array Value) (wx:World),tm.getD 4 undef=.string ⟨r.1.toArray⟩->tm.getD 5 undef=.bool r.2->aJB x y r->Mod No w wx->Z .ret ⟨tm,[]⟩ wx)(aJK:∀(u:Us) (s:Value) (ws:List (List UInt8 × Nat × Nat)) (mt:List Bool) (wx:World),DL w S N x y r i WI wi a b Q P R 4 ws mt s wx->Z (.exit 2) (DFr A B S N Q P R k u s (I 4)) wx):Code.wp prog (Code.loop (((f27.body.bind aIA).bind aIA).getD .skip)) Z (DFr A B S N Q P R k u s (I 0)) wr:=by
 conv=>arg 2;arg 1;whnf
 cases u;cases k;unfold DFr
 dsimp only
 go_loopg [7,12] 4 (fun gh s u12 wx=>∃(l:Nat) (ws:List (List UInt8 × Nat × Nat)) (mt:List Bool),gh=4-l∧u12=I l∧DL w S N x y r i WI wi a b Q P R l ws mt s wx)
 case atStart=>exact⟨0,ws,mt,rfl,rfl,hL⟩
 case round=>
  rename_i hJ hK;obtain⟨l,ws,mt,rfl,rfl,hL⟩:=hrel;refine aJC hC (Z:=Exit.then _ Z) (u:=⟨_,_,_,_,_,_,_,_,_,_,_,_,_,_,_,_,_,_,_,_,_,_,_,_,_,_,_,_,_,_,_,_,_,_,_,_,_,_,_,_,_,_,_,_,_,_,_,_,_,_,_,_,_,_,_,_,_,_,_,_,_,_,_,_,_,_,_,_,_,_,_,_,_,_,_,_,_⟩) hL hret aJK ?_;intro u s ws mt wx hL2;refine hK _ _ ?_;refine Handed.intro (4-(l+1)) (by have:=hL2.l4;omega) ?_;refine hJ _ _ _ ?_;exact⟨_,_,_,_,_,_,_,_,_,_,_,_,_,_,_,_,_,_,_,_,_,_,_,_,_,_,_,_,_,_,_,_,_,_,_,_,_,_,_,_,_,_,_,_,_,_,_,_,_,_,_,_,_,_,_,_,_,_,_,_,_,_,_,_,_,_,_,_,_,_,_,_,_,_,_,_,_,_,_,⟨l+1,ws,mt,rfl,by go_num,hL2⟩,rfl⟩
end
theorem aJu(w:World)(A B:Nat)(x y:List iL)(v v':M2.View)(hx:MFx v x)(hy:MFx v' y)(uV:VF v)(hvy:VF v')(hA:lC w A x)(hB:lC w B y):J1 27 #[Jx A 0,Jx B 0] w fun e w'=>e=.returned (.tuple #[.string ⟨(dfM x y).1.toArray⟩,.bool (dfM x y).2])∧aJB x y (dfM x y)∧Mod No w w':=by
 obtain⟨r,hr⟩:=eX (dfM x y);rw[<-hr];have HR0:=qH hr.symm;clear hr;unfold dfM at HR0;obtain⟨i0,af,hz0,hz1,hz2⟩:=info_parts aJb;obtain⟨vx,hbx,hrx⟩:=hA;obtain⟨vy,hby,hry⟩:=hB;have hxp:=hx.pos;have hxl:=hx.le;have hyp:=hy.pos;have hyl:=hy.le;have HU:=qH (Th.DI.start (x:=x) (y:=y) hxp hyp);obtain⟨gx,cx,rfl,-,-⟩:=hrx.form (by omega);obtain⟨gy,cy,rfl,-,-⟩:=hry.form (by omega);obtain⟨n,hn⟩:=eX (x.length);obtain⟨m,hm⟩:=eX (y.length);obtain⟨N,hN⟩:=eX (n*m);have hNl:N<=40000:=by
  have:n*m<=200*200:=Nat.mul_le_mul (by omega) (by omega);omega
 have hNp:0<N:=by rw[hN];exact Nat.mul_pos (by omega) (by omega)
 have hmul:(n:Int)*(m:Int)=N:=by rw[hN];push_cast;rfl
 rw[<-hn]at hxp hxl hbx hrx HU HR0;rw[<-hm]at hyp hyl hby hry HU HR0;rw[<-hN]at HU HR0;have HN:=qH (And.intro hn (And.intro hm hN));have HX:=qH (And.intro hrx hry);have HF:=qH (And.intro hx hy);have y5:=qH (And.intro uV hvy);clear uV hvy;have HB:=qH (And.intro hbx hby);have a0:=hbx.cell 0 rfl;have b0:=hby.cell 0 rfl;have hmk:=S9 N (by omega);have hn0:((n:Int)==0)=false:=by rw[beq_eq_false_iff_ne];omega
 have hm0:((m:Int)==0)=false:=by rw[beq_eq_false_iff_ne];omega
 have hNi:(0:Int)<(N:Int):=by omega
 have hwN:IntKind.i64.wrap (N:Int)=N:=by rw[IntKind.wrap_i64];omega
 have HW0:Hd (DW w w.heap.size N ((replicate N false).set 0 true) (.slice (some ⟨w.heap.size+1,0,none⟩) 1 1) [([],0,0)] ((w.alloc (.cells ((Array.replicate N (Value.bool false)).setIfInBounds 0 (.bool true)) 4)).alloc (.cells #[.string ⟨#[]⟩,I 0,I 0] 121)).drew):=by
  have h1:Row lD (w.alloc (.cells ((Array.replicate N (Value.bool false)).setIfInBounds 0 (.bool true)) 4)) (Jn w.heap.size N N) ((replicate N false).set 0 true):=by
   have:=Row.of_block (E:=lD) (xs:=(replicate N false).set 0 true) (b:=w.heap.size) (w:=w.alloc (.cells ((Array.replicate N (Value.bool false)).setIfInBounds 0 (.bool true)) 4)) (by rw[aJa];exact heap_alloc_new w _) (by simp;unfold maxLen;omega);simpa using this
  refine⟨(h1.alloc _).drew,?_,fun q hq=>by cases hq;exact Nat.lt_succ_self _,(((Mod.refl _ _).alloc _).alloc _).drew⟩;have h2:Row MtE ((w.alloc (.cells ((Array.replicate N (Value.bool false)).setIfInBounds 0 (.bool true)) 4)).alloc (.cells #[.string ⟨#[]⟩,I 0,I 0] 121)) (.slice (some ⟨(w.alloc (.cells ((Array.replicate N (Value.bool false)).setIfInBounds 0 (.bool true)) 4)).heap.size,0,none⟩) 1 1) [([],0,0)]:=Row.of_block (E:=MtE) (xs:=[([],0,0)]) (heap_alloc_new _ _) (by show 1<=_;unfold maxLen;decide);rw[show (w.alloc (.cells ((Array.replicate N (Value.bool false)).setIfInBounds 0 (.bool true)) 4)).heap.size=w.heap.size+1 by simp]at h2;exact h2.drew
 clear hn hm hN hrx hry hx hy hbx hby
 go_enter func27,ntmps27;go_wp2_with fail
 go_region
 go_wp2_with fail;generalize ((w.alloc (.cells ((Array.replicate N (Value.bool false)).setIfInBounds 0 (.bool true)) 4)).alloc (.cells #[.string ⟨#[]⟩,I 0,I 0] 121)).drew=W1 at HW0 ⊢;generalize hS:w.heap.size=S at HW0 ⊢;have HS:=qH hS;clear hmk hS a0 b0;go_loopg [7,8] 40001 (fun gh u7 u8 wr=>∃(i:Nat) (ws:List (List UInt8 × Nat × Nat)) (mt:List Bool),u8=I i∧i<=ws.length∧gh=40001-i∧dM x y (200010-5*i) i 0 ws mt=r∧Th.DI x y ws mt i∧DW w S N mt u7 ws wr)
 case atStart=>exact⟨0,_,_,rfl,by simp,rfl,HR0.o,HU.o,HW0.o⟩
 case round=>
  clear HU HW0 HR0;obtain⟨i,ws,mt,rfl,hik,hgk,hgo,hU,hW⟩:=hrel;have Jg:=qH hgo;clear hgo;have hwl:=hU.le HF.o.1.le HF.o.2.le;obtain⟨k,hk⟩:=eX (ws.length);have HK:=qH hk;obtain⟨pa,pc,ev,-,-⟩:=hW.ws.open hk.symm;rw[<-hk]at hwl hik;by_cases hlt:i<k
  ·obtain⟨⟨wi,a,b⟩,hwi⟩:∃p,ws[i]?=some p:=⟨ws[i]'(by omega),bG _⟩;obtain⟨-,aLz,hai,hbi,-⟩:=hU.wok i wi a b hwi;rw[<-HN.o.1]at hai;rw[<-HN.o.2.1]at hbi;obtain⟨p,hp⟩:∃q,x[a]?=some q:=⟨x[a]'(by have:=HN.o.1;omega),bG _⟩;obtain⟨q,hq⟩:∃q,y[b]?=some q:=⟨y[b]'(by have:=HN.o.2.1;omega),bG _⟩;have hpm:=oz hp;have hqm:=oz hq;have hmd:=hW.md;obtain⟨gw,hgw⟩:∃gw,pa=some (J gw 0):=by
    obtain⟨g2,c2,h2,-⟩:=hW.ws.form (by omega);rw[ev]at h2;injection h2 with h2 _;exact⟨g2,h2⟩
   subst hgw;have hws:=hW.ws;rw[ev]at hws;obtain⟨WI,hWI⟩:=eX (⟨wi.toArray⟩:ByteArray);have c0:wr.cell? (J gw (i*3))=some (.string WI):=by rw[hWI];exact hws.cell i 0 hwi rfl
   have c1:wr.cell? (J gw (i*3+1))=some (I a):=hws.cell i 1 hwi rfl;have c2:wr.cell? (J gw (i*3+2))=some (I b):=hws.cell i 2 hwi rfl;have aHL:(i:Int)<k:=by omega
   have han:(a:Int)<n:=by omega
   have hbn:(b:Int)<m:=by omega
   have hWs:WI.size<=40000:=by
    have e:WI.size=wi.length:=by rw[hWI,aZ]
    omega
   have HWI:=qH hWI;have HW:=qH hW;have HU:=qH hU;have HQ:=qH (And.intro hwi (And.intro hp (And.intro hq (And.intro hpm hqm))));have HEV:=qH ev;have aKv:gw<wr.heap.size:=by
    obtain⟨g2,c2,h2,h3,-⟩:=hws.form (by rw[<-HK.o];omega);injection h2 with h2 _;cases h2;exact h3
   have aLq:S<wr.heap.size:=by
    obtain⟨g2,c2,h2,h3,-⟩:=hW.mt.form (by rw[hU.ml,<-HN.o.1,<-HN.o.2.1,<-HN.o.2.2];exact hNp);injection h2 with h2 _;cases h2;exact h3
   clear hW hU hws hwi hp hq hpm hqm hk hWI;rw[ev];clear ev;go_wp2_with fail;have HWa:Hd (DW w S N mt (Jn gw k pc) ws (wr.alloc (.cells #[.string WI,I a,I b] 121))∧aG (wr.alloc (.cells #[.string WI,I a,I b] 121)) wr.heap.size [.string WI,I a,I b] 121∧(wr.alloc (.cells #[.string WI,I a,I b] 121)).heap.size=wr.heap.size+1):=⟨by have:=HW.o.no ((Mod.refl _ _).alloc (.cells #[.string WI,I a,I b] 121));rw[HEV.o]at this;exact this,heap_alloc_new wr _,by simp⟩;generalize wr.alloc (.cells #[.string WI,I a,I b] 121)=wa at HWa ⊢;generalize wr.heap.size=Q at HWa aKv aLq ⊢;clear HW HEV c0 c1 c2 hmd;have d1:=HWa.o.2.1.cell 1 rfl;have d2:=HWa.o.2.1.cell 2 rfl;have hbA:=HB.o.1.mod HWa.o.1.md (fun h=>h);have hbB:=HB.o.2.mod HWa.o.1.md (fun h=>h);have e0:=hbA.cell 0 rfl;have e1:=hbB.cell 0 rfl;have hAl:=hbA.lt;have hBl:=hbB.lt;have hQl:=HWa.o.2.1.lt;have aLr:gx<wa.heap.size:=by
    obtain⟨g2,c2,h2,h3,-⟩:=(HX.o.1.no HWa.o.1.md).form (by have:=HN.o.1;omega);injection h2 with h2 _;cases h2;exact h3
   have CA:∀(b o:Nat) (O:Obj),b<wa.heap.size->(wa.alloc O).cell? (J b o)=wa.cell? (J b o):=fun b o O h=>by
    simp only[World.cell?,Below.heap_alloc wa O b h]
   obtain⟨S0,S1,S2,S3,S4,M0,M1,M2,M3,hSM,s0,s1,s2,s3,s4,s5,s6,s7,s8⟩:=aAS (HX.o.1.no HWa.o.1.md) a p HQ.o.2.1;have HSM:=qH hSM;clear hSM;go_wp2_with fail
   go_region
   have HP:Hd (Mod No wa (wa.alloc (.cells #[.string S0,.string S1,.string S2,.string S3,.string S4,I M0,I M1,I M2,I M3] 104)).drew∧aG (wa.alloc (.cells #[.string S0,.string S1,.string S2,.string S3,.string S4,I M0,I M1,I M2,I M3] 104)).drew wa.heap.size [.string S0,.string S1,.string S2,.string S3,.string S4,I M0,I M1,I M2,I M3] 104):=⟨((Mod.refl _ _).alloc _).drew,heap_alloc_new wa _⟩;generalize (wa.alloc (.cells #[.string S0,.string S1,.string S2,.string S3,.string S4,I M0,I M1,I M2,I M3] 104)).drew=wb at HP ⊢;have HWb:=qH (a2 (HWa.o.1.no HP.o.1) (HWa.o.2.1.mod HP.o.1 (fun h=>h)));generalize hPe:wa.heap.size=P at HP hQl ⊢;clear s0 s1 s2 s3 s4 s5 s6 s7 s8 CA d1 d2 e0 e1 hbA hbB hAl hBl aLr hPe;have d2:=HWb.o.2.cell 2 rfl;have hbB:=HB.o.2.mod HWb.o.1.md (fun h=>h);have e1:=hbB.cell 0 rfl;have hBl:=hbB.lt;have hQb:=HWb.o.2.lt;have aLs:gy<wb.heap.size:=by
    obtain⟨g2,c2,h2,h3,-⟩:=(HX.o.2.no HWb.o.1.md).form (by have:=HN.o.2.1;omega);injection h2 with h2 _;cases h2;exact h3
   have CA:∀(b o:Nat) (O:Obj),b<wb.heap.size->(wb.alloc O).cell? (J b o)=wb.cell? (J b o):=fun b o O h=>by
    simp only[World.cell?,Below.heap_alloc wb O b h]
   obtain⟨T0,T1,T2,T3,T4,L0,L1,L2,L3,hTL,t0,t1,t2,t3,t4,t5,t6,t7,t8⟩:=aAS (HX.o.2.no HWb.o.1.md) b q HQ.o.2.2.1;have HTL:=qH hTL;clear hTL HWa;go_wp2_with fail
   go_region
   have HR:Hd (Mod No wb (wb.alloc (.cells #[.string T0,.string T1,.string T2,.string T3,.string T4,I L0,I L1,I L2,I L3] 104)).drew∧aG (wb.alloc (.cells #[.string T0,.string T1,.string T2,.string T3,.string T4,I L0,I L1,I L2,I L3] 104)).drew wb.heap.size [.string T0,.string T1,.string T2,.string T3,.string T4,I L0,I L1,I L2,I L3] 104):=⟨((Mod.refl _ _).alloc _).drew,heap_alloc_new wb _⟩;have hPb:=HP.o.2.lt;generalize (wb.alloc (.cells #[.string T0,.string T1,.string T2,.string T3,.string T4,I L0,I L1,I L2,I L3] 104)).drew=wc at HR ⊢;have HWc:Hd (DW w S N mt (Jn gw k pc) ws wc∧aG wc Q [.string WI,I a,I b] 121∧aG wc P (BO.f p) 104∧aG wc wb.heap.size (BO.f q) 104):=⟨HWb.o.1.no HR.o.1,HWb.o.2.mod HR.o.1 (fun h=>h),by rw[<-aJ6 HSM.o];exact HP.o.2.mod HR.o.1 (fun h=>h),by rw[<-aJ6 HTL.o];exact HR.o.2⟩;generalize hRe:wb.heap.size=R at HWc hPb hQb ⊢;clear t0 t1 t2 t3 t4 t5 t6 t7 t8 CA d2 e1 hbB hBl aLs hRe HR HP HWb;have p0:wc.cell? (J P 0)=some (.string S0):=by rw[HSM.o.1];exact HWc.o.2.2.1.cell 0 rfl
   have r0:wc.cell? (J R 0)=some (.string T0):=by rw[HTL.o.1];exact HWc.o.2.2.2.cell 0 rfl
   have hS0:S0.toList=p.en:=by rw[toList_data,HSM.o.1]
   have hT0:T0.toList=q.en:=by rw[toList_data,HTL.o.1]
   by_cases hen:p.en=q.en
   ·have hcmp:(S0.toList==T0.toList)=true:=by rw[hS0,hT0,hen];exact beq_self_eq_true _
    have HD0:Hd (Dp x y mt a b 0):=⟨by rw[HQ.o.2.2.2.1,HQ.o.2.2.2.2];exact hen,fun l hl=>absurd hl (by omega)⟩;clear hS0 hT0 hen;go_wp2_with fail;clear hcmp p0 r0;have HDC:Hd (DC w A B S N n m gx cx gy cy x y v v' WI wi a b Q P R):=⟨HN.o.1,HN.o.2.1,HN.o.2.2,hNp,HX.o.1,HX.o.2,HF.o.1,HF.o.2,y5.o.1,y5.o.2,HB.o.1,HB.o.2,HWI.o,hWs,by omega,by omega,HS.o,by omega,by omega,by omega⟩;have HDL:Hd (DL w S N x y r i WI wi a b Q P R 0 ws mt (Jn gw k pc) wc):=⟨by omega,HQ.o.1,Jg.o,HU.o,HD0.o,HWc.o.1,HWc.o.2.1,by rw[HQ.o.2.2.2.1];exact HWc.o.2.2.1,by rw[HQ.o.2.2.2.2];exact HWc.o.2.2.2,fun q hq=>by cases hq;exact⟨by show gw≠Q;omega,by show gw≠P;omega,by show gw≠R;omega⟩⟩;refine aKh HDC.o (k:=⟨_,_,_,_,_,_,_,_,_,_,_,_,_,_,_,_,_,_,_,_,_,_,_,_,_,_,_,_,_,_,_,_,_,_,_,_,_,_,_,_,_,_,_,_,_,_,_,_,_,_,_,_,_,_,_,_,_,_,_,_,_,_,_,_,_,_,_,_,_,_,_,_,_,_⟩) (u:=⟨_,_,_,_,_,_,_,_,_,_,_,_,_,_,_,_,_,_,_,_,_,_,_,_,_,_,_,_,_,_,_,_,_,_,_,_,_,_,_,_,_,_,_,_,_,_,_,_,_,_,_,_,_,_,_,_,_,_,_,_,_,_,_,_,_,_,_,_,_,_,_,_,_,_,_,_,_⟩) HDL.o ?_ ?_
    ·clear HDL HWc HU HD0 Jg HQ HWI;intro tm wx h4 h5 hd hm;go_wp2;refine bodyPost_ret (results_tmp2 rfl _ _ _) rfl ?_;show _=_∧_;rw[h4,h5];exact⟨rfl,hd,hm⟩
    ·clear HDL HWc HD0 HQ Jg HU HWI;intro u s ws mt wx hL;unfold DFr
     dsimp only
     have hgo:=hL.go;have hwk:=(bU hL.wi).1;have hle:=hL.di.le HF.o.1.le HF.o.2.le;rw[show 200010-5*i-4=(200010-5*(i+1))+1 by omega,aKf hL.wi hL.dp.1 (by omega)]at hgo;have aAr:=qH hgo;have HUn:=qH (hL.di.next hL.wi hL.dp);have HW2:=qH hL.dw;clear hL hgo;go_wp2;go_roundg (40001-(i+1))
     case measure=>omega
     case rel=>exact⟨i+1,ws,mt,by go_num,by omega,rfl,aAr.o,HUn.o,HW2.o⟩
   ·have hcmp:(S0.toList==T0.toList)=false:=by rw[hS0,hT0,beq_eq_false_iff_ne];exact hen
    have q0:=HWc.o.2.1.cell 0 rfl;have hne:(I4 x a).en≠(I4 y b).en:=by rw[HQ.o.2.2.2.1,HQ.o.2.2.2.2];exact hen
    have HR:Hd ((wi,true)=r∧Th.Parts x y wi):=⟨by rw[<-Jg.o,show 200010-5*i=(200009-5*i)+1 by omega,aKo HQ.o.1 hne],HU.o.end_ HF.o.1.le HF.o.2.le HQ.o.1 hne⟩;clear hS0 hT0 hen hne;go_wp2;go_ret2;rw[<-HR.o.1,HWI.o];exact⟨rfl,HR.o.2,HWc.o.1.md⟩
  ·have HE:Hd ((([]:List UInt8),false)=r∧x=y):=⟨by rw[<-Jg.o,show 200010-5*i=(200009-5*i)+1 by omega,aKd (by have:=HK.o;omega)],hU.fin HF.o.1 HF.o.2 (by have:=HK.o;omega)⟩;have HM:=qH hW.md;have hnk:¬(i:Int)<k:=by omega
   rw[ev];clear hU hW ev;go_wp2;go_ret2;rw[<-HE.o.1];exact⟨rfl,⟨rfl,HE.o.2⟩,HM.o⟩
def Made(w:World)(M:Nat)(ps:List (Th.LR × Value))(aC:List iL):Prop:=∃m R c,aG w M [Jx m 0,Jn R ps.length c] 48∧lC w m aC∧nZ w (Jn R ps.length c) ps
theorem Made.no(h:Made w M ps aC)(hm:Mod No w w'):Made w' M ps aC:=by
 obtain⟨m,R,c,h1,h2,h3⟩:=h;exact⟨m,R,c,h1.mod hm (fun x=>x),h2.no hm,h3.mod hm⟩
theorem Made.only(h:Made w M ps aC)(hb:aG w b cs 31)(hm:Mod (fun k=>k=b) w w'):Made w' M ps aC:=by
 obtain⟨m,R,c,h1,h2,h3⟩:=h;refine⟨m,R,c,h1.mod hm (fun e=>?_),h2.only hb hm,h3.row.mod hm (fun g hg e=>h3.row.blk hb (by decide) (by rw[hg,e])),fun p hp=>(h3.Y5 p hp).mod hm (fun g hg e=>(h3.Y5 p hp).blk hb (by decide) (by rw[hg,e]))⟩;subst e;have:=h1.symm.trans hb;injection this with this;injection this with _ h2;exact absurd h2 (by decide)
structure Ms(w:World)(b m:Nat)(cs:List Value)(aC:List iL)(M:Nat)(ps:List (Th.LR × Value))(wx:World):Prop where
 bl:aG wx b cs 31
 md:Mod (fun k=>k=b) w wx
 mc:lC wx m aC
 md2:Made wx M ps aC
theorem Ms.up{m:Nat}(h:Ms w b m cs aC M ps wx)(hm:Mod No wx wy):Ms w b m cs aC M ps wy:=⟨h.bl.mod hm (fun x=>x),h.md.no hm,h.mc.no hm,h.md2.no hm⟩
theorem aJD(w:World)(B b R q lc:Nat)(nv wv:Option Addr)(ps:List (Th.LR × Value))(l:List Th.LR)(hb:aG w b [Jn R q lc,.string (sb (aQ l)),.pointer nv,.pointer wv] 31)(hL:nZ w (Jn R q lc) ps)(hq:q=ps.length)(hps:ps.map Prod.fst=l)(hok:∀a∈l,a.Ok)(h1:1<=q)(h4:q<=4)(htab:Lib.TabBelow prog B w uI .u64 Lib.pow10Tab)(hB1:B<=b)(hB2:B<=w.heap.size)
  (rs:List aI.Rule) (v:M2.View) (aC:List iL) (hr:aI.cZ 1000 (aQ l) 0 []=some (rs,0,0)) (hrl:rs.length≠0) (hv:M3.view rs=some (some v)) (hst:M3.states v 200=some (some aC)) (hf:M3.find v=some none) (hm:JS aC) (hs1:M3.states v aC.length=some (some aC)) (hs2:∀m,m<aC.length->M3.states v m=some none):J1 7 #[Jx b 0] w fun e w'=>e=.returned (.bool true)∧Mod (fun k=>k=b) w w'∧∃M,aG w' b [Jn R q lc,.string (sb (aQ l)),Jx M 0,.pointer nv] 31∧Made w' M ps aC:=by
 have HB:=qH hb;have hlen:(aQ l).length<=1048576:=by
  have:=mr l hok;have e:l.length=q:=by rw[<-hps,length_map,hq]
  omega
 have hle:=hm.le;have hpos:=hm.pos;have HC:Hd (∀wx,J1 11 #[.string (sb (aQ l)),I 200] wx fun e w'=>(∃m,e=.returned (.tuple #[Jx m 0,noV,I 0])∧lC w' m aC)∧Mod No wx w'):=fun wx=>Jv wx l hlen (limit:=200) (by omega) (by omega) (IJ hr hrl hv hst (by omega))
 have HCN:=qH fun wx=>Jv wx l hlen hpos hle (IJ hr hrl hv hs1 (by omega))
 have HCM:Hd (∀wx,∃f:Nat,(f=5∨(f=6∧aC.length=1))∧J1 11 #[.string (sb (aQ l)),I ((aC.length:Int)-1)] wx fun e w'=>(∃X Y Z1 Z2 c,e=.returned (.tuple #[.pointer none,.agg #[I 0,.string X,.string Y,.string Z1,.string Z2,I c],I f]))∧Mod No wx w'):=fun wx=>by
  rcases iK 1 aC.length with hn | hn
  ·refine⟨5,Or.inl rfl,?_⟩;have h:=BR wx l hlen (limit:=aC.length-1) (by omega) (by omega) (k:=5) (by omega) (II hr hrl hv (hs2 _ (by omega)) hf);rw[show ((aC.length-1:Nat):Int)=(aC.length:Int)-1 by omega]at h;refine h.mono ?_;rintro e w' ⟨⟨X,Y,Z1,Z2,c,he,-⟩,hm⟩;exact⟨⟨X,Y,Z1,Z2,c,he⟩,hm⟩
  ·refine⟨6,Or.inr ⟨rfl,by omega⟩,?_⟩;have h:=Qj wx (sb (aQ l));rw[show (aC.length:Int)-1=0 by omega];refine h.mono ?_;rintro e w' ⟨he,hm⟩;exact⟨⟨_,_,_,_,_,he⟩,hm⟩
 have HT:=qH fun wx m (hmx:Mod (fun k=>k=b) w wx) (hmm:lC wx m aC)=>aBa B wx (htab.on (Uf hmx hB1 hB2)) hm hmm
 have HLD:=qH fun wx=>aA9 wx hm
 have HRW:=qH (a2 hL hq);have HWd:Hd (∀p∈ps,Row NH w p.2 p.1.c.words∧p.2.ownBlock≠some b):=fun p hp=>⟨hL.Y5 p hp,(hL.Y5 p hp).blk hb (by decide)⟩
 generalize sb (aQ l)=T at HB HC HCN HCM ⊢;generalize (⟨(bV aC).toArray⟩:ByteArray)=TX at HT HLD;obtain⟨N,hN⟩:=eX aC.length;rw[<-hN]at hle hpos HCN HCM;have HN:=qH hN;clear hb hL hps hok hlen hq hr hrl hv hst hf hm hs1 hs2 htab hN;have hqi:¬(q:Int)<1:=by omega
 have hqj:¬(4:Int)<(q:Int):=by omega
 go_enter func7,ntmps7;go_wp2_with fail;refine(IG _).mono ?_;rintro e w1 ⟨⟨m1,rfl⟩,mm1⟩;have c1:=(HB.o.mod mm1 (fun x=>x)).aS 1 rfl;have lF:Hd (Mod No w (w1.alloc (.cells #[I 0,.string ⟨#[]⟩,.string ⟨#[]⟩,.string ⟨#[]⟩,.string ⟨#[]⟩,I 0] 42))):=mm1.alloc _;clear mm1;unfold noV;go_wp2_with fail;clear c1;generalize w1.alloc (.cells #[I 0,.string ⟨#[]⟩,.string ⟨#[]⟩,.string ⟨#[]⟩,.string ⟨#[]⟩,I 0] 42)=w2 at *;refine(HC.o _).mono ?_;rintro e w3 ⟨⟨m,rfl,hmm⟩,m3⟩;have HB3:=qH ((HB.o.mod lF.o (fun x=>x)).mod m3 (fun x=>x));have HB4:Hd (aG (w3.alloc (.cells #[I 0,.string ⟨#[]⟩,.string ⟨#[]⟩,.string ⟨#[]⟩,.string ⟨#[]⟩,I 0] 42)) b [Jn R q lc,.string T,.pointer nv,.pointer wv] 31):=HB3.o.alloc _;have Aa:Hd (Mod No w (w3.alloc (.cells #[I 0,.string ⟨#[]⟩,.string ⟨#[]⟩,.string ⟨#[]⟩,.string ⟨#[]⟩,I 0] 42))):=(lF.o.no m3).alloc _;have HMM:Hd (lC (w3.alloc (.cells #[I 0,.string ⟨#[]⟩,.string ⟨#[]⟩,.string ⟨#[]⟩,.string ⟨#[]⟩,I 0] 42)) m aC):=hmm.no ((Mod.refl _ _).alloc _);have c0:=HB4.o.cell 0 rfl;have c2:=HB4.o.cell 2 rfl;have c3:=HB4.o.cell 3 rfl;have f2:=HB4.o.free 2;have f3:=HB4.o.free 3;clear HB HC m3 lF HB3 hmm;unfold noV;go_upto_region 5 with fail;generalize hW4:w3.alloc (.cells #[I 0,.string ⟨#[]⟩,.string ⟨#[]⟩,.string ⟨#[]⟩,.string ⟨#[]⟩,I 0] 42)=w4 at *;have HM5:Hd (Mod (fun k=>k=b) w (w4.setCell (J b 3) (.pointer nv))):=Mod.setCell (S:=fun k=>k=b) (Aa.o.more (fun _ _ x=>x.elim)) (a:=J b 3) (fun _=>rfl) _;have Qv:Hd (aG (w4.setCell (J b 3) (.pointer nv)) b [Jn R q lc,.string T,.pointer nv,.pointer nv] 31):=HB4.o.set 3 _;have Xn:Hd (Row Zn (w4.setCell (J b 3) (.pointer nv)) (Jn R q lc) ps):=(HRW.o.1.row.no Aa.o).other (fun e=>HB4.o.apart (HRW.o.1.row.no Aa.o) (by decide) e) _;have aFZ:Hd (lC (w4.setCell (J b 3) (.pointer nv)) m aC):=HMM.o.only HB4.o (Mod.setCell (S:=fun k=>k=b) (Mod.refl _ _) (a:=J b 3) (fun _=>rfl) _);obtain⟨i0,af,hz0,hz1,hz2⟩:=info_parts aJk;have hnl:(ps.flatMap Zn.f).length=q*6:=by rw[HRW.o.2];exact HRW.o.1.row.1
 have hone:∀u∈ps.flatMap Zn.f,u.oneCell'=true:=fun u hu=>by
  obtain⟨p,hp,hu⟩:=mem_flatMap.1 hu;obtain⟨va,vc,hv,-,-,-⟩:=(HRW.o.1.Y5 p hp).any;have hp2:p.2=.slice va p.1.c.words.length vc:=hv;simp[Zn,hp2]at hu;rcases hu with rfl | rfl | rfl | rfl | rfl | rfl <;> rfl
 have hnews:∀j u,(ps.flatMap Zn.f)[j]?=some u->(w4.setCell (J b 3) (.pointer nv)).cell? (((J R 0):Addr).add j)=some u:=fun j u hu=>by
  have:=World.ownsRow.cells Xn.o (g:=R) rfl j u hu;simpa [Addr.add] using this
 have hfr:∀wx,wx=w4.setCell (J b 3) (.pointer nv)->wx.cell? (J b 2)=some (.pointer nv):=fun wx h=>by rw[h];exact Qv.o.cell 2 rfl
 have d0:=Qv.o.cell 0 rfl;have d2:=Qv.o.cell 2 rfl;have g2:=Qv.o.free 2;clear hfr;go_wp2_with (at_builtin;refine wpList_append_lies _ rfl _ _ 28 rfl w.heap.size 76 i0 _ 6 64 underlying28 af hz0 hz1 hz2 rfl (by omega) (.slice none 0 0) 0 [] rfl (World.ownsRow_nil _ _ _ _) (J R 0) q lc (ps.flatMap Zn.f) rfl hnl hnews hone (by omega) (by unfold maxLen;omega) (by omega) (by have:=HM5.o.size;exact this) (w4.setCell (J b 3) (.pointer nv)).heap.size rfl ?_);intro gg cap2 w6 hown6 hg6 hgg aHe;have HB6:=qH (Qv.o.grown hg6 (by intro h;cases h));have HM6:=qH (HM5.o.grown hg6 (fun g h=>by cases h));have aHf:=qH (aFZ.o.no ((Mod.refl No _).grown hg6 (fun g h=>by cases h)));have e2:=HB6.o.dQ 2;have e2c:=HB6.o.aS 2 rfl;have HMs:Hd (Ms w b m [Jn R q lc,.string T,Jx w6.heap.size 0,.pointer nv] aC w6.heap.size ps ((w6.alloc (.cells #[Jx m 0,Jn gg q cap2] 48)).setCell (J b 2) (Jx w6.heap.size 0))):=by
  have m7:Mod (fun k=>k=b) (w6.alloc (.cells #[Jx m 0,Jn gg q cap2] 48)) ((w6.alloc (.cells #[Jx m 0,Jn gg q cap2] 48)).setCell (J b 2) (Jx w6.heap.size 0)):=Mod.setCell (S:=fun k=>k=b) (Mod.refl _ _) (a:=J b 2) (fun _=>rfl) _;have n7:Mod No w6 (w6.alloc (.cells #[Jx m 0,Jn gg q cap2] 48)):=(Mod.refl _ _).alloc _;have hrow:Row Zn w6 (Jn gg q cap2) ps:=by
   have:=aAu hown6;show w6.ownsRow 0 76 6 _ ps.length (ps.flatMap Zn.f);rw[<-HRW.o.2];simpa using this
  have hmk:Made (w6.alloc (.cells #[Jx m 0,Jn gg q cap2] 48)) w6.heap.size ps aC:=by
   refine⟨m,gg,cap2,?_,aHf.o.no n7,?_,fun p hp=>?_⟩
   ·rw[<-HRW.o.2];exact heap_alloc_new w6 _
   ·rw[<-HRW.o.2];exact hrow.no n7
   ·exact((HWd.o p hp).1.mod HM6.o (fun g hg e=>(HWd.o p hp).2 (by rw[hg,e]))).no n7
  exact⟨(HB6.o.alloc _).set 2 _,(HM6.o.alloc _).trans m7,(aHf.o.no n7).only (HB6.o.alloc _) m7,hmk.only (HB6.o.alloc _) m7⟩
 clear hown6 hg6 hgg aHe af hz0 hz1 hz2 hnl hone hnews d0 d2 g2 c0 c2 c3 f2 f3 HB4 Qv Aa HM5 HMM aFZ Xn;go_wp2_with fail;clear e2 e2c;generalize (w6.alloc (.cells #[Jx m 0,Jn gg q cap2] 48)).setCell (J b 2) (Jx w6.heap.size 0)=w8 at *;generalize w6.heap.size=MB at *;refine(MZ _ m aC HMs.o.mc).mono ?_;rintro e w9 ⟨rfl,rfl⟩;rw[<-HN.o];have d1:=HMs.o.bl.cell 1 rfl;go_wp2_with fail;clear d1;refine(HCN.o _).mono ?_;rintro e w10 ⟨⟨m2,rfl,hm2⟩,aCD⟩;unfold noV;have aKt:=qH (HMs.o.up (aCD.alloc (.cells #[I 0,.string ⟨#[]⟩,.string ⟨#[]⟩,.string ⟨#[]⟩,.string ⟨#[]⟩,I 0] 42)));have aEI:=qH (hm2.no ((Mod.refl _ _).alloc (.cells #[I 0,.string ⟨#[]⟩,.string ⟨#[]⟩,.string ⟨#[]⟩,.string ⟨#[]⟩,I 0] 42)));clear hm2 aCD HMs;go_wp2_with fail;generalize w10.alloc (.cells #[I 0,.string ⟨#[]⟩,.string ⟨#[]⟩,.string ⟨#[]⟩,.string ⟨#[]⟩,I 0] 42)=w11 at *;refine(HT.o _ m2 aKt.o.md aEI.o).mono ?_;rintro e w12 ⟨rfl,m12⟩;have YM:=qH (aKt.o.up m12);clear m12 aKt aEI;go_wp2_with fail;refine(HT.o _ m YM.o.md YM.o.mc).mono ?_;rintro e w13 ⟨rfl,m13⟩;have YN:=qH (YM.o.up m13);clear m13 YM;go_wp2_with fail;refine(HT.o _ m YN.o.md YN.o.mc).mono ?_;rintro e w14 ⟨rfl,m14⟩;have aCE:=qH (YN.o.up m14);clear m14 YN;go_wp2_with fail;refine(HLD.o _).mono ?_;rintro e w15 ⟨⟨m3,rfl,Ae⟩,m15⟩;have aBb:=qH (aCE.o.up m15);have aF1:=qH Ae;clear m15 Ae aCE;go_wp2_with fail;refine(HT.o _ m3 aBb.o.md aF1.o).mono ?_;rintro e w16 ⟨rfl,m16⟩;have YO:=qH (aBb.o.up m16);clear m16 aBb aF1;go_wp2_with fail;refine(HT.o _ m YO.o.md YO.o.mc).mono ?_;rintro e w17 ⟨rfl,m17⟩;have aEJ:=qH (YO.o.up m17);clear m17 YO;have d1:=aEJ.o.bl.cell 1 rfl;go_wp2_with fail;obtain⟨f,hf,hcm⟩:=HCM.o w17;refine hcm.mono ?_;rintro e w18 ⟨⟨X,Y,Z1,Z2,c,rfl⟩,m18⟩;have aJi:=qH (aEJ.o.up m18);clear m18 aEJ d1 hcm;rcases hf with rfl | ⟨rfl,hN1⟩
 ·by_cases hN1:N=1
  ·subst hN1;go_wp2_with fail;go_ret;exact⟨rfl,aJi.o.md,MB,aJi.o.bl,aJi.o.md2⟩
  ·have aIu:((N:Int)==1)=false:=by rw[beq_eq_false_iff_ne];omega
   go_wp2_with fail;go_ret;exact⟨rfl,aJi.o.md,MB,aJi.o.bl,aJi.o.md2⟩
 ·subst hN1;go_wp2_with fail;go_ret;exact⟨rfl,aJi.o.md,MB,aJi.o.bl,aJi.o.md2⟩
end
section
open Go.RowKit
structure aJ7(l:List Th.LR)(aC:List iL):Prop where
 fx:∃v,VF v∧MFx v aC
 lm:JS aC
 law:∀z,Th.Wd z->wV l 0 z=kC aC 0 z
theorem aJ8{l:List Th.LR}(ho:∀a∈l,a.Ok)(h1:1<=l.length)(h4:l.length<=4){rs:List aI.Rule}{v:M2.View}{aC:List iL}(hr:aI.cZ 1000 (aQ l) 0 []=some (rs,0,0))(hv:M3.view rs=some (some v))(hst:M3.states v 200=some (some aC))(hm:JS aC):aJ7 l aC:=by
 obtain⟨rs',hrs,hread⟩:=FH l 1000 0 [] (by omega) ho;rw[aU (by omega),nil_append,hr]at hread;obtain rfl:rs=rs':=(Prod.mk.inj (dY hread)).1;obtain⟨hvf,hk,-⟩:=sZ hv;obtain⟨sr,hst',hsr⟩:=KT hvf hk (limit:=200) (by omega) (by omega);rw[hst]at hst';obtain⟨hM,-⟩:=hsr aC (dY hst').symm;have fx:=aBO hM;refine⟨⟨v,hvf,fx⟩,hm,fun z hz=>?_⟩;rw[fx.all z hz];unfold Th.R;rw[tN hrs hv z 0 hz]
theorem aJc(w:World)(B b:Nat)(vl:Value)(ps:List (Th.LR × Value))(l:List Th.LR)(hb:aG w b [vl,.string (sb (aQ l)),.pointer none,.pointer none] 31)(hL:nZ w vl ps)(hps:ps.map Prod.fst=l)(hok:∀a∈l,a.Ok)(h5:l.length<=5)(htab:Lib.TabBelow prog B w uI .u64 Lib.pow10Tab)(hB1:B<=b)(hB2:B<=w.heap.size):J1 7 #[Jx b 0] w fun e w'=>e=.returned (.bool true)∧Mod (fun k=>k=b) w w'∧∃p,aG w' b [vl,.string (sb (aQ l)),.pointer p,.pointer none] 31∧(p=none∨∃M aC,p=some (J M 0)∧Made w' M ps aC∧aJ7 l aC∧1<=l.length∧l.length<=4):=by
 have hlen:ps.length=l.length:=by rw[<-hps,length_map]
 have no:∀{e w'},(e=Ending.returned (.bool true)∧Mod No w w')->e=Ending.returned (.bool true)∧Mod (fun k=>k=b) w w'∧∃p,aG w' b [vl,.string (sb (aQ l)),.pointer p,.pointer none] 31∧(p=none∨∃M aC,p=some (J M 0)∧Made w' M ps aC∧aJ7 l aC∧1<=l.length∧l.length<=4):=fun h=>⟨h.1,h.2.more (fun _ _ x=>x.elim),none,hb.mod h.2 (fun x=>x),Or.inl rfl⟩
 by_cases hr:l.length<1∨4<l.length
 ·obtain⟨la,lc,rfl,-,-,-⟩:=hL.row.any;exact(BU w b la ps.length lc _ _ ps l hb hL hlen hps hok (by omega) (Or.inl ⟨rfl,by omega⟩) (Qk (O8 hok hr (by omega)))).mono fun _ _ h=>no h
 ·obtain⟨R,lc,rfl,-,-⟩:=hL.row.form (by omega);have hc:=Th.comes hok (by omega) (by omega) (limit:=200) (by omega) (by omega)
  cases hc with
  | big rs h1 h2 h3=>
   exact(BU w b _ ps.length lc _ _ ps l hb hL hlen hps hok (by omega) (Or.inr ⟨Or.inl rfl,by omega,by omega⟩) (Uc h1 h2 h3)).mono fun _ _ h=>no h
  | twin rs v x h1 h2 h3 h4 h5 h6=>
   exact(YK w b R ps.length lc _ _ ps l hb hL rfl hps hok (by omega) (by omega) rs v x h1 h2 h3 h4 h5 h6).mono fun _ _ h=>no h
  | much rs v h1 h2 h3 h4 h5=>
   exact(BU w b _ ps.length lc _ _ ps l hb hL hlen hps hok (by omega) (Or.inr ⟨Or.inr rfl,by omega,by omega⟩) (II h1 h2 h3 h4 h5)).mono fun _ _ h=>no h
  | made rs v aC h1 h2 h3 h4 h5 h6 h7 h8 h9=>
   refine(aJD w B b R ps.length lc none none ps l hb hL rfl hps hok (by omega) (by omega) htab hB1 hB2 rs v aC h1 h2 h3 h4 h6 h7 h8 h9).mono ?_;rintro e w' ⟨he,hm,M,hB,hMd⟩;exact⟨he,hm,_,hB,Or.inr ⟨M,aC,rfl,hMd,aJ8 hok (by omega) (by omega) h1 h3 h4 h7,by omega,by omega⟩⟩
end
section
open Go.RowKit
attribute [local go_sem ↓] Go.wp_at_zero Go.wp_at_succ
def aKi(zs:List (List UInt8)):Prop:=∀(k:Nat) (z:List UInt8),zs[k]?=some z->Th.Wb z∧z.length<=k+4
theorem aKi.app{zs zt:List (List UInt8)}(h:aKi zs)(ht:∀z∈zt,Th.Wb z∧z.length<=zs.length+4):aKi (zs++zt):=fun k z hz=>by
 by_cases hk:k<zs.length
 ·rw[jG hk]at hz;exact h k z hz
 ·rw[mW (by omega)]at hz;obtain⟨h1,h2⟩:=ht z (iI hz);exact⟨h1,by omega⟩
structure TsI(w:World)(u:Value)(zs:List (List UInt8))(wr:World):Prop where
 row:Row NH wr u zs
 ok:aKi zs
 md:Mod No w wr
 nw:∀q,u.ownBlock=some q->w.heap.size<=q
theorem Row.many{α:Type}{E:Enc α}{w:World}{v:Value}{xs ys:List α}{n:Nat}{nc:List Value}(hn:xs.length+ys.length=n)(hx:nc=ys.flatMap E.f)(h:w.ownsRow 0 E.T E.c v n (xs.flatMap E.f++nc)):Row E w v (xs++ys):=by
 show w.ownsRow 0 E.T E.c v (xs++ys).length ((xs++ys).flatMap E.f);rw[flatMap_append,length_append,hn,<-hx];exact h
def eight:List (List UInt8):=[[97,97,97,97],[97,98,97,98],[98,98,98,99],[99,97,98,100],[100,100,100,100],[97,97,97,98],[99,99,99,98],[98,99,98,99]]
theorem aJ9:∀z∈eight,Th.Wb z∧z.length=4:=by
 unfold Th.Wb;decide
theorem aJW(w:World):J1 28 #[] w fun e w'=>∃v zs,e=.returned v∧Row NH w' v zs∧(∀z∈zs,Th.Wb z∧z.length<=60)∧1<=zs.length∧zs.length<=40∧Mod No w w':=by
 obtain⟨i0,af,hz0,hz1,hz2⟩:=info_parts aIG;have HW0:Hd (TsI w (Jn w.heap.size 1 1) [[]] (w.alloc (.cells #[.string ⟨#[]⟩] 9))):=by
  refine⟨Row.of_block (E:=NH) (xs:=[[]]) (heap_alloc_new _ _) (by show 1<=_;unfold maxLen;decide),fun k z hz=>?_,(Mod.refl _ _).alloc _,fun q hq=>by cases hq;exact dH _⟩;have:z=[]:=by
   have:=iI hz;simpa using this
  subst this;exact⟨fun _ h=>(by cases h),Nat.zero_le _⟩
 go_enter func28,ntmps28;go_wp2_with fail;generalize w.alloc (.cells #[.string ⟨#[]⟩] 9)=W1 at HW0 ⊢;go_loopg [1,2] 40 (fun gh u1 u2 wr=>∃(i:Nat) (zs:List (List UInt8)),u2=I i∧i<=zs.length∧1<=zs.length∧zs.length<=24∧gh=40-i∧TsI w u1 zs wr)
 case atStart=>exact⟨0,_,rfl,by simp,by simp,by simp,rfl,HW0.o⟩
 case round=>
  clear HW0;obtain⟨i,zs,rfl,hik,hk1,Xf,hgk,hI⟩:=hrel;obtain⟨k,hk⟩:=eX (zs.length);obtain⟨pa,pc,ev,-,-⟩:=hI.row.open hk.symm;subst ev;rw[<-hk]at hik hk1 Xf;by_cases hgo:i<k∧k<21
  ·have hlt:(i:Int)<k:=by omega
   have h21:(k:Int)<21:=by omega
   have HB0:Hd (TsI w (.slice pa k pc) zs (wr.alloc (.cells #[.string ⟨#[97]⟩,.string ⟨#[98]⟩,.string ⟨#[99]⟩,.string ⟨#[100]⟩] 9))∧aG (wr.alloc (.cells #[.string ⟨#[97]⟩,.string ⟨#[98]⟩,.string ⟨#[99]⟩,.string ⟨#[100]⟩] 9)) wr.heap.size [.string ⟨#[97]⟩,.string ⟨#[98]⟩,.string ⟨#[99]⟩,.string ⟨#[100]⟩] 9∧∀q,(Value.slice pa k pc).ownBlock=some q->q<wr.heap.size):=⟨⟨hI.row.alloc _,hI.ok,hI.md.alloc _,hI.nw⟩,heap_alloc_new wr _,fun q hq=>hI.row.lt hq⟩;have hCl:=hI.md.size;have HK:=qH hk;clear hI hk;go_wp2_with fail;generalize wr.alloc (.cells #[.string ⟨#[97]⟩,.string ⟨#[98]⟩,.string ⟨#[99]⟩,.string ⟨#[100]⟩] 9)=W2 at HB0 ⊢;generalize wr.heap.size=C at HB0 hCl ⊢;generalize (Value.slice pa k pc)=V2 at HB0 ⊢;go_loopg [1,19] 4 (fun gh u1 u19 wx=>∃(j:Nat) (zs:List (List UInt8)),u19=I j∧j<=4∧zs.length=k+j∧gh=4-j∧TsI w u1 zs wx∧aG wx C [.string ⟨#[97]⟩,.string ⟨#[98]⟩,.string ⟨#[99]⟩,.string ⟨#[100]⟩] 9∧∀q,u1.ownBlock=some q->q≠C)
   case atStart=>exact⟨0,zs,rfl,by omega,HK.o.symm,rfl,HB0.o.1,HB0.o.2.1,fun q hq=>Nat.ne_of_lt (HB0.o.2.2 q hq)⟩
   case round=>
    clear HB0;obtain⟨j,zs,rfl,hj4,hzl,hgj,hI,hB,hne⟩:=hrel;by_cases hj:j<4
    ·have hji:(j:Int)<4:=by omega
     obtain⟨z,hz⟩:∃z,zs[i]?=some z:=⟨zs[i]'(by omega),bG _⟩;obtain⟨hzw,hzn⟩:=hI.ok i z hz;obtain⟨pa2,pc2,ev2,-,-⟩:=hI.row.open hzl;subst ev2;obtain⟨gv,rfl⟩:∃gv,pa2=some (J gv 0):=by
      obtain⟨g2,c2,h2,-⟩:=hI.row.form (by omega);injection h2 with h2 _;exact⟨g2,h2⟩
     obtain⟨L,hL⟩:=eX (sb (aT j));have cl:wr.cell? (J C j)=some (.string L):=by
      rw[hL]
      match j,hj with
      | 0,_=>exact hB.cell 0 rfl
      | 1,_=>exact hB.cell 1 rfl
      | 2,_=>exact hB.cell 2 rfl
      | 3,_=>exact hB.cell 3 rfl
     obtain⟨ZB,hZB⟩:=eX (sb z);have cz:wr.cell? (J gv i)=some (.string ZB):=by rw[hZB];exact NH.cell hI.row hz
     have hzi:(i:Int)<((k+j:Nat):Int):=by omega
     have hls:L.size=1:=by rw[hL,ai];rfl
     have hzs:ZB.size<=30:=by rw[hZB,ai];omega
     have Lj:¬9223372036854775807<ZB.size+L.size:=by omega
     obtain⟨KJ,hKJ⟩:=eX (k+j);have hKl:KJ<=24:=by omega
     have hown:wr.ownsRow 0 9 1 (Jn gv KJ pc2) KJ (zs.flatMap NH.f):=by
      have h:wr.ownsRow 0 9 1 (Jn gv (k+j) pc2) zs.length (zs.flatMap NH.f):=hI.row;rw[hzl]at h;rw[hKJ];exact h
     have HL:=qH (And.intro hL (And.intro hZB (And.intro hKJ (And.intro hzw (And.intro hzn hz)))));have HI:=qH hI;have HB:=qH hB;have YZ:=qH hne;have hCw:=hB.lt;rw[<-hKJ]at hzi ⊢;clear hL hZB hKJ hzw hzn hz hI hB hne;go_wp2_with (at_builtin;refine wpList_append_lies _ rfl _ _ 56 rfl 0 9 i0 _ 1 16 underlying56 af hz0 hz1 hz2 rfl (by omega) (Jn gv KJ pc2) KJ (zs.flatMap NH.f) rfl (hown.alloc _) (J wr.heap.size 0) 1 1 [.string (ZB++L)] rfl rfl (World.news_of_block (cs:=#[.string (ZB++L)]) (t:=9) (fr:=(0,0)) (heap_alloc_new wr _)) (by intro u hu;simp at hu;subst hu;rfl) (by omega) (by unfold maxLen;omega) (by omega) (by simp) (wr.heap.size+1) (by simp) ?_);intro gg cap2 w7 gV hgrow hat fJ;have AY:Hd (TsI w (Jn gg (KJ+1) cap2) (zs++[z++aT j]) w7):=by
      refine⟨jq (by rw[hzl];exact HL.o.2.2.1.symm) (by rw[HL.o.1,HL.o.2.1,dm];rfl) gV,HI.o.ok.app (fun y hy=>?_),(HI.o.md.alloc _).grown hgrow (fun x hx hlt=>absurd hlt (by have:=HI.o.nw x (by rw[<-HL.o.2.2.1];exact hx);omega)),fun q hq=>?_⟩
      ·obtain rfl:y=z++aT j:=by simpa using hy
       refine⟨aIN HL.o.2.2.2.1 hj,?_⟩;have h1:=HL.o.2.2.2.2.1;rw[length_append];show z.length+1<=_;omega
      ·cases hq;rcases hat with e | e
       ·have h1:=HI.o.nw gv rfl;have h2:gv=gg:=dY e;rw[<-h2];exact h1
       ·have:=HI.o.md.size;show _<=gg;omega
     have HB7:=qH ((HB.o.alloc _).grown hgrow (fun e=>YZ.o C (by rw[<-HL.o.2.2.1];exact e.symm) rfl));have HN7:Hd (∀q,(Jn gg (KJ+1) cap2).ownBlock=some q->q≠C):=fun q hq=>by
      cases hq;rcases hat with e | e
      ·have h2:gv=gg:=dY e;rw[<-h2];exact YZ.o gv rfl
      ·show gg≠C;omega
     have hKJ:=HL.o.2.2.1;clear gV hgrow hat fJ hown cl cz;go_wp2;go_roundg (4-(j+1))
     case measure=>omega
     case rel=>exact⟨j+1,zs++[z++aT j],by go_num,by omega,by rw[length_append,hzl];rfl,rfl,AY.o,HB7.o,HN7.o⟩
    ·obtain rfl:j=4:=by omega
     have HI:=qH hI;clear hI hB hne;go_wp2;go_roundg (40-(i+1))
     case measure=>omega
     case rel=>exact⟨i+1,zs,by go_num,by omega,by omega,by omega,rfl,HI.o⟩
  ·have HI:=qH hI;have hown:wr.ownsRow 0 9 1 (.slice pa k pc) k (zs.flatMap NH.f):=by
    have h:wr.ownsRow 0 9 1 (.slice pa k pc) zs.length (zs.flatMap NH.f):=hI.row;rw[<-hk]at h;exact h
   have HK:=qH hk;clear hI hk;have hcase:¬(i:Int)<k∨((i:Int)<k∧¬(k:Int)<21):=by omega
   rcases hcase with h | ⟨h,h'⟩;all_goals
    go_wp2_with (at_builtin;refine wpList_append_lies _ rfl _ _ 56 rfl 0 9 i0 _ 1 16 underlying56 af hz0 hz1 hz2 rfl (by omega) (.slice pa k pc) k (zs.flatMap NH.f) rfl (hown.alloc _) (J wr.heap.size 0) 8 8 [.string ⟨#[97,97,97,97]⟩,.string ⟨#[97,98,97,98]⟩,.string ⟨#[98,98,98,99]⟩,.string ⟨#[99,97,98,100]⟩,.string ⟨#[100,100,100,100]⟩,.string ⟨#[97,97,97,98]⟩,.string ⟨#[99,99,99,98]⟩,.string ⟨#[98,99,98,99]⟩] rfl rfl (World.news_of_block (cs:=#[.string ⟨#[97,97,97,97]⟩,.string ⟨#[97,98,97,98]⟩,.string ⟨#[98,98,98,99]⟩,.string ⟨#[99,97,98,100]⟩,.string ⟨#[100,100,100,100]⟩,.string ⟨#[97,97,97,98]⟩,.string ⟨#[99,99,99,98]⟩,.string ⟨#[98,99,98,99]⟩]) (t:=9) (fr:=(0,0)) (heap_alloc_new wr _)) (by intro u hu;simp at hu;rcases hu with rfl | rfl | rfl | rfl | rfl | rfl | rfl | rfl <;> rfl) (by omega) (by unfold maxLen;omega) (by omega) (by simp) (wr.heap.size+1) (by simp) ?_);intro gg cap2 w7 gV hgrow hat fJ;have HR7:=qH (Row.many (E:=NH) (xs:=zs) (ys:=eight) (by rw[<-HK.o];rfl) rfl gV);have HM7:=qH ((HI.o.md.alloc _).grown hgrow (fun x hx hlt=>absurd hlt (by have:=HI.o.nw x hx;omega)));have hk:=HK.o;clear gV hgrow hat fJ hown;go_wp2;go_ret;refine⟨_,zs++eight,rfl,HR7.o,fun z hz=>?_,by rw[length_append];omega,by rw[length_append,<-hk];show k+8<=40;omega,HM7.o⟩;rcases mem_append.1 hz with hz | hz
    ·obtain⟨n,hn,e⟩:=getElem_of_mem hz;obtain⟨h1,h2⟩:=HI.o.ok n z (by rw[bG hn,e]);exact⟨h1,by omega⟩
    ·obtain⟨h1,h2⟩:=aJ9 z hz;exact⟨h1,by omega⟩
end
end Go.Proofs.YtoebidlghdidoaaGreatDoor
