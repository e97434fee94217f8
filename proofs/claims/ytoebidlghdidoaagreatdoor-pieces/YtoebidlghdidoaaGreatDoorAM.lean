import Derived.Test.YtoebidlghdidoaaGreatDoorAL
import Derived.Deep.LoopGhost
import Derived.Deep.CutRange
set_option maxHeartbeats 4000000
set_option maxRecDepth 100000
namespace Go.Proofs.YtoebidlghdidoaaGreatDoor
open aI Tryz List Go.RowKit
attribute [local go_sem ↓] Go.wp_at_zero Go.wp_at_succ
attribute [local go_sem] gZ
variable {o:Obj} {L T f F R:Nat} {cs:List Value} {x wh:aI.Piece} {p' pk:PS} {w W0 wr:World} {vk b0 b1 b2:Value}
section
variable {w w1 w2 w':World} {b:Nat} {s:ByteArray} {vp vp1:Value} {p p1 p2:PS}
theorem Sl(h:iC w b s vp p)(hs:s.size<=1048576):J1 154 #[Jx b 0] w fun e w'=>e=.returned (.bool (nN s.data.toList p))∧∃n,w'=w.drewN n:=by
 have hbad:=Zq h;have hleft:=Vm h hs;have hs1:=fun n=>Vk (h.drewN n) 124 hs
 have hs2:=fun n=>Vk (h.drewN n) 41 hs
 have hE:nN s.data.toList p=(p.bad||decide (p.k=s.size)||aI.sees s.data.toList 124 p||aI.sees s.data.toList 41 p):=by
  unfold nN;rw[bK]
 have hks:=h.ks;rw[hE];clear hE h;generalize aI.sees s.data.toList 124 p=v1 at hs1;generalize aI.sees s.data.toList 41 p=v2 at hs2;obtain⟨k,bad,ps⟩:=p;simp only at hbad hleft hks ⊢
 cases bad with
 | true=>
  simp only[Bool.true_or];go_enter func154,ntmps154;go_wp2_with fail;refine hbad.mono ?_;rintro e w1 ⟨rfl,rfl⟩;go_wp2;go_ret;exact⟨rfl,0,rfl⟩
 | false=>
  simp only[Bool.false_or];by_cases hk:k=s.size
  ·have h0:(((s.size:Int)-(k:Int))==0)=true:=by rw[hk];simp
   simp only[decide_eq_true hk,Bool.true_or];clear hk;generalize (s.size:Int)-(k:Int)=D at hleft h0;go_enter func154,ntmps154;go_wp2_with fail;refine hbad.mono ?_;rintro e w1 ⟨rfl,rfl⟩;go_wp2_with fail;refine hleft.mono ?_;rintro e w1 ⟨rfl,n,rfl⟩;go_wp2;go_ret;exact⟨rfl,_,rfl⟩
  ·have h0:(((s.size:Int)-(k:Int))==0)=false:=by rw[beq_eq_false_iff_ne];omega
   simp only[decide_eq_false hk,Bool.false_or];clear hk;generalize (s.size:Int)-(k:Int)=D at hleft h0
   cases v1 with
   | true=>
    simp only[Bool.true_or];go_enter func154,ntmps154;go_wp2_with fail;refine hbad.mono ?_;rintro e w1 ⟨rfl,rfl⟩;go_wp2_with fail;refine hleft.mono ?_;rintro e w1 ⟨rfl,n,rfl⟩;go_wp2_with fail;refine(hs1 n).mono ?_;rintro e w1 ⟨rfl,m,rfl⟩;go_wp2;go_ret;exact⟨rfl,_,rfl⟩
   | false=>
    simp only[Bool.false_or];go_enter func154,ntmps154;go_wp2_with fail;refine hbad.mono ?_;rintro e w1 ⟨rfl,rfl⟩;go_wp2_with fail;refine hleft.mono ?_;rintro e w1 ⟨rfl,n,rfl⟩;go_wp2_with fail;refine(hs1 n).mono ?_;rintro e w1 ⟨rfl,m,rfl⟩;rw[World.drewN_drewN];go_wp2_with fail;refine(hs2 _).mono ?_;rintro e w1 ⟨rfl,m2,rfl⟩;go_wp2;go_ret;exact⟨rfl,_,rfl⟩
abbrev Gives(w:World)(b:Nat)(s:ByteArray)(vp:Value)(x:aI.Piece)(p':PS)(e:Ending)(w':World):Prop:=e=.returned (gZ x)∧xg x∧wu w w' b s vp p'
theorem wu.fin(h:wu (w.alloc o) w1 b s vp p1)(hb:b<w.heap.size)(hv:∀g,vp.ownBlock=some g->g<w.heap.size)(A0 A1 A2:Value):wu w (((w1.setCell (J w.heap.size 0) A0).setCell (J w.heap.size 1) A1).setCell (J w.heap.size 2) A2) b s vp p1:=by
 have hvn:vp.ownBlock≠some w.heap.size:=fun e=>by have:=hv _ e;omega
 obtain⟨vp1,h1,f1,m1⟩:=h;have hn1:=f1.old hvn (by simp);have hbn:b≠w.heap.size:=by omega
 refine⟨vp1,((h1.other (a:=J w.heap.size 0) hbn hn1 A0).other (a:=J w.heap.size 1) hbn hn1 A1).other (a:=J w.heap.size 2) hbn hn1 A2,fun g hg=>?_,?_⟩
 ·rcases f1 g hg with h | h
  ·exact Or.inl h
  ·exact Or.inr (by simp at h;omega)
 ·have:=((Mod.refl (Pt b vp) w).alloc o).trans m1;exact((this.setCell (a:=J w.heap.size 0) (fun h=>absurd h (by simp)) A0).setCell (a:=J w.heap.size 1) (fun h=>absurd h (by simp)) A1).setCell (a:=J w.heap.size 2) (fun h=>absurd h (by simp)) A2
theorem wu.keep(h:wu w w1 b s vp p1)(h0:aG w L cs T)(hb:b≠L)(hv:vp.ownBlock≠some L):aG w1 L cs T:=by
 obtain⟨_,_,_,m1⟩:=h;exact gG h0 (fun e=>hb e.symm) hv m1
theorem J8(l:List UInt8):(⟨l.toArray⟩:ByteArray).toList.isEmpty=l.isEmpty:=by rw[toList_data]
theorem GL(P:UInt8->Bool)(hp:p.k<=s.size)(hs:s.size<=1048576):(⟨(ku P s.data.toList p).1.toArray⟩:ByteArray).size<=1048576:=by
 show (ku P s.data.toList p).1.toArray.size<=1048576;rw[size_toArray];have:=tY P s.data.toList p.k (by rw[bK];exact hp);rw[bK]at this;have e:(ku P s.data.toList p).1=Ld.run P s.data.toList p.k:=rfl;rw[e];omega
theorem set_any(h:iC w b s vp p)(hs:s.size<=1048576)(hM:IV s.data.toList p=some (x,p')):J1 161 #[Jx b 0] w fun e w'=>Gives w b s vp x p' e w':=by
 have hb:=h.lt;have hown:=fun g hg=>h.own (g:=g) hg
 unfold IV at hM
 dsimp only at hM
 generalize e1:eY s.data.toList 91 p=q1 at hM;have H1:Hd (∀o,J1 79 #[Jx b 0,.int .u8 91] (w.alloc o) fun e w'=>e=.returned (.tuple #[])∧iC w' b s vp q1∧Mod (Pt b vp) (w.alloc o) w'):=fun o=>by
  have:=Oo (h.alloc o) 91 hs;rw[e1]at this;exact this
 clear e1 h;generalize e2:iW s.data.toList 94 q1=q2 at hM;generalize e3:aI.sees s.data.toList 94 q1=o1 at hM;have H2:Hd (∀wx,iC wx b s vp q1->J1 81 #[Jx b 0,.int .u8 94] wx fun e w'=>e=.returned (.bool o1)∧iC w' b s vp q2∧Mod (Pt b vp) wx w'):=fun wx hx=>by
  have:=Om hx 94 hs;rw[e2,e3]at this;exact this
 clear e2 e3;generalize e4:ku lG s.data.toList q2=r at hM;have H3:Hd (∀wx,iC wx b s vp q2->(⟨r.1.toArray⟩:ByteArray).size<=1048576∧J1 78 #[Jx b 0,I 0] wx fun e w'=>e=.returned (.string ⟨r.1.toArray⟩)∧iC w' b s vp r.2∧Mod (Pt b vp) wx w'):=fun wx hx=>by
  have:=aE0 hx hs;rw[e4]at this;exact⟨by rw[<-e4];exact GL _ hx.ks hs,this⟩
 clear e4;obtain⟨rl,q3⟩:=r;simp only at hM H3;generalize e5:eY s.data.toList 93 q3=q4 at hM;have H4:Hd (∀wx,iC wx b s vp q3->J1 79 #[Jx b 0,.int .u8 93] wx fun e w'=>e=.returned (.tuple #[])∧iC w' b s vp q4∧Mod (Pt b vp) wx w'):=fun wx hx=>by
  have:=Oo hx 93 hs;rw[e5]at this;exact this
 clear e5;have hem:=J8 rl;have H5:Hd (∀S:ByteArray,S=⟨rl.toArray⟩->S.size<=1048576->∀wx,(J1 164 #[.string S] wx fun e w'=>e=.returned (.bool (aI.rising rl))∧∃n,w'=wx.drewN n)∧(J1 162 #[.string S] wx fun e w'=>e=.returned (Y4 (dS rl))∧Mod No wx w')∧(J1 115 #[.string S] wx fun e w'=>e=.returned (Y4 (aI.allOf rl aX))∧Mod No wx w')):=fun S e hS wx=>by
  subst e;exact⟨LJ _ wx hS,Fv _ wx hS,wZ _ wx hS⟩
 generalize hS:(⟨rl.toArray⟩:ByteArray)=S at hem H3 H5;have H5:=qH (H5.o S rfl);clear hS;generalize aI.rising rl=ri at hM H5;generalize rl.isEmpty=em at hM hem;generalize dS rl=tb at hM H5;generalize aI.allOf rl aX=ta at hM H5;have HM:Hd _:=hM;have HOWN:=qH hown;have hvR:vp.ownBlock≠some w.heap.size:=fun e=>by have:=hown _ e;omega
 have hbR:b≠w.heap.size:=by omega
 clear hM hown;go_enter func161,ntmps161;go_wp2_with fail;refine(H1.o _).mono ?_;rintro e w1 ⟨rfl,h1,m1⟩;clear H1;go_wp2_with fail;refine(H2.o _ h1).mono ?_;rintro e w2 ⟨rfl,h2,m2⟩;clear H2 h1;go_wp2_with fail;obtain⟨hSs,H3⟩:=H3.o _ h2;refine H3.mono ?_;rintro e w3 ⟨rfl,h3,m3⟩;clear H3 h2;go_wp2_with fail;refine(H4.o _ h3).mono ?_;rintro e w4 ⟨rfl,h4,m4⟩;clear H4 h3;have m4:Mod (Pt b vp) (w.alloc (.cells #[.bool false,.int .u32 0,.int .u32 0] 130)) w4:=((m1.trans m2).trans m3).trans m4;have H6:=H5.o hSs;clear m1 m2 m3 H5;cases em
 case' true=>
  have hM:=HM.o;rw[show (true||!ri)=true from rfl,aP rfl]at hM;generalize hq:nP q4=q5 at hM;have HM:Hd ((match iZ q5.ps (if o1=true then tb else ta)with | none=>none | some (q,ps)=>some (q,{ q5 with ps:=ps }))=some (x,p')):=hM;clear hM;go_wp2_with fail;refine(Vl h4).mono ?_;rintro e w5 ⟨rfl,h5,m5⟩;have m5:=m4.trans m5;rw[hq]at h5;clear m4 h4 hq
 case' false=>
  cases ri
  case' false=>
   have hM:=HM.o;rw[show (false||!false)=true from rfl,aP rfl]at hM;generalize hq:nP q4=q5 at hM;have HM:Hd ((match iZ q5.ps (if o1=true then tb else ta)with | none=>none | some (q,ps)=>some (q,{ q5 with ps:=ps }))=some (x,p')):=hM;clear hM;go_wp2_with fail;refine((H6 _).1).mono ?_;rintro e w9 ⟨rfl,n9,rfl⟩;go_wp2_with fail;refine(Vl (h4.drewN n9)).mono ?_;rintro e w5 ⟨rfl,h5,m5⟩;have m5:=(m4.drewN n9).trans m5;rw[hq]at h5;clear m4 h4 hq
  case' true=>
   have hM:=HM.o;rw[show (false||!true)=false from rfl,aU (by simp)]at hM;generalize hq:q4=q5 at hM;have HM:Hd ((match iZ q5.ps (if o1=true then tb else ta)with | none=>none | some (q,ps)=>some (q,{ q5 with ps:=ps }))=some (x,p')):=hM;clear hM;go_wp2_with fail;refine((H6 _).1).mono ?_;rintro e w9 ⟨rfl,n9,rfl⟩;have m5:=m4.drewN n9;have h5:=h4.drewN n9;rw[hq]at h5;generalize w4.drewN n9=w5 at m5 h5 ⊢;clear m4 h4 hq
 all_goals
  obtain⟨t,ht⟩:=eX (if o1=true then tb else ta);rw[<-ht]at HM;have ha:∃xx ps,iZ q5.ps t=some (xx,ps)∧xx=x∧{ q5 with ps:=ps }=p':=by
   have h:=HM.o
   cases hadd:iZ q5.ps t with
   | none=>simp[hadd]at h
   | some r=>obtain⟨xx,ps⟩:=r;simp[hadd]at h;exact⟨xx,ps,rfl,h.1,h.2⟩
  obtain⟨xx,ps,ha,rfl,rfl⟩:=ha;have HA:=qH ha;have HP:=qH h5;have iH:aG w5 w.heap.size [.bool false,.int .u32 0,.int .u32 0] 130:=gG (heap_alloc_new w _) (by omega) hvR m5;clear ha HM h5;cases o1;all_goals
   first
    | obtain rfl:t=tb:=ht
    | obtain rfl:t=ta:=ht
   go_wp2_with fail;go_region_with (first | (go_at_call 162;refine((H6 _).2.1).mono ?_;rintro e wA ⟨rfl,mA⟩) | (go_at_call 115;refine((H6 _).2.2).mono ?_;rintro e wA ⟨rfl,mA⟩) | (go_at_call 114;refine(Fz (HP.o.drew.no mA) _ HA.o).mono ?_;rintro e wB ⟨rfl,hx,hL⟩;have zR:=hL.keep (iH.drew.mod mA (fun x=>x)) hbR hvR;have z0:=zR.cell 0 rfl;have z1:=zR.cell 1 rfl;have z2:=zR.cell 2 rfl;have g0:=zR.free 0;have g1:=zR.free 1;have g2:=zR.free 2));all_goals
    have HL:=qH (wu.next (aN.refl _ _) (m5.drew.no mA) hL);clear hL mA m5 iH HP zR;go_wp2;exact bodyPost_ret (v:=.agg #[.bool xx.e,.int .u32 xx.f,.int .u32 xx.l]) (by simp[results,results161,go_sem,z0,z1,z2]) rfl ⟨rfl,hx,HL.o.fin hb HOWN.o _ _ _⟩
end
def Vo(s:ByteArray)(f:Nat):Prop:=∀(w:World) (b:Nat) (vp:Value) (p:PS) (d:Nat) (x:aI.Piece) (p':PS),iC w b s vp p->d<=3->DF s.data.toList f d p=some (x,p') ->J1 117 #[Jx b 0,I d] w fun e w'=>Gives w b s vp x p' e w'
def Zy(s:ByteArray)(f:Nat):Prop:=∀(w:World) (b:Nat) (vp:Value) (p:PS) (d:Nat) (x:aI.Piece) (p':PS),iC w b s vp p->d<=3->Jw s.data.toList f d ⟨true,0,0⟩ p=some (x,p') ->J1 140 #[Jx b 0,I d] w fun e w'=>Gives w b s vp x p' e w'
def Sm(s:ByteArray)(f:Nat):Prop:=∀(w:World) (b:Nat) (vp:Value) (p:PS) (d:Nat) (x:aI.Piece) (p':PS),iC w b s vp p->d<=3->NR s.data.toList f d p=some (x,p') ->J1 155 #[Jx b 0,I d] w fun e w'=>Gives w b s vp x p' e w'
section
variable {w w1 w2 w':World} {b:Nat} {s:ByteArray} {vp vp1:Value} {p p1 p2:PS}
def brM(l:List UInt8)(f d:Nat)(p:PS):Option (aI.Piece × PS):=if 3<=d then some (⟨false,0,0⟩,nP p) else
 match DF l f (d+1) (eY l 40 p)with
 | none=>none
 | some (x,p1)=>some (x,eY l 41 p1)
theorem LQ(h:iC w b s vp p)(hs:s.size<=1048576){d:Nat}(hC:Vo s f)(hd:d<=3)(hM:brM s.data.toList f d p=some (x,p')):J1 160 #[Jx b 0,I d] w fun e w'=>Gives w b s vp x p' e w':=by
 have hb:=h.lt;have HOWN:=qH fun g (hg:vp.ownBlock=some g)=>h.own (g:=g) hg
 have hvR:vp.ownBlock≠some w.heap.size:=fun e=>by have:=h.own e;omega
 have hbR:b≠w.heap.size:=by omega
 unfold brM at hM;by_cases h3:3<=d
 ·rw[aP h3]at hM;simp only[Option.some.injEq,Prod.mk.injEq]at hM;obtain⟨rfl,rfl⟩:=hM;have h3i:(3:Int)<=(d:Int):=by omega
  have HF:=qH fun o=>Vl (h.alloc o)
  clear h;go_enter func160,ntmps160;go_wp2_with fail;refine(HF.o _).mono ?_;rintro e w1 ⟨rfl,h1,m1⟩;have zR:=gG (heap_alloc_new w _) (by omega) hvR m1;have HL:Hd (wu (w.alloc (.cells #[.bool false,.int .u32 0,.int .u32 0] 130)) w1 b s vp (nP p)):=h1.led m1;have z0:=zR.cell 0 rfl;have z1:=zR.cell 1 rfl;have z2:=zR.cell 2 rfl;have g0:=zR.free 0;have g1:=zR.free 1;have g2:=zR.free 2;clear HF h1 m1 zR;go_wp2;exact bodyPost_ret (v:=.agg #[.bool false,.int .u32 0,.int .u32 0]) (by simp[results,results160,go_sem,z0,z1,z2]) rfl ⟨rfl,⟨by decide,by decide⟩,HL.o.fin hb HOWN.o _ _ _⟩
 ·rw[aU h3]at hM;have h3i:¬(3:Int)<=(d:Int):=by omega
  generalize e1:eY s.data.toList 40 p=q1 at hM;have H1:Hd (∀o,J1 79 #[Jx b 0,.int .u8 40] (w.alloc o) fun e w'=>e=.returned (.tuple #[])∧iC w' b s vp q1∧Mod (Pt b vp) (w.alloc o) w'):=fun o=>by
   have:=Oo (h.alloc o) 40 hs;rw[e1]at this;exact this
  clear e1 h
  cases hc:DF s.data.toList f (d+1) q1 with
  | none=>rw[hc]at hM;cases hM
  | some r=>
   obtain⟨y,q2⟩:=r;rw[hc]at hM;simp only[Option.some.injEq,Prod.mk.injEq]at hM;obtain⟨rfl,rfl⟩:=hM;have H2:Hd (∀wx,iC wx b s vp q1->J1 117 #[Jx b 0,I ((d:Int)+1)] wx fun e w'=>Gives wx b s vp y q2 e w'):=fun wx hx=>hC wx b vp q1 (d+1) y q2 hx (by omega) hc
   have H3:Hd (∀wx vx,iC wx b s vx q2->J1 79 #[Jx b 0,.int .u8 41] wx fun e w'=>e=.returned (.tuple #[])∧iC w' b s vx (eY s.data.toList 41 q2)∧Mod (Pt b vx) wx w'):=fun wx vx hx=>Oo hx 41 hs
   generalize eY s.data.toList 41 q2=q3 at H3 ⊢;clear hc hC;go_enter func160,ntmps160;go_wp2_with fail;refine(H1.o _).mono ?_;rintro e w1 ⟨rfl,h1,m1⟩;clear H1;go_wp2_with fail;refine(H2.o _ h1).mono ?_;rintro e w2 ⟨rfl,hx,SS,h2,f2,m2⟩;have m2:Mod (Pt b vp) (w.alloc (.cells #[.bool false,.int .u32 0,.int .u32 0] 130)) w2:=m1.trans m2;have f2:aN (w.alloc (.cells #[.bool false,.int .u32 0,.int .u32 0] 130)) vp SS:=(aN.refl _ _).trans f2 m1.size;have aGd:=f2.old hvR (by simp);have hs2:=m2.size;simp at hs2;have aGe:SS.ownBlock≠some w2.heap.size:=fun e=>by have:=h2.own e;omega
   have H3:=qH fun o=>H3.o _ SS (h2.alloc o)
   have zR:aG w2 w.heap.size [.bool false,.int .u32 0,.int .u32 0] 130:=gG (heap_alloc_new w _) (by omega) hvR m2;clear H2 h1 m1;go_wp2_with fail;refine(H3.o _).mono ?_;rintro e w3 ⟨rfl,h3,m3⟩;clear H3;have zI:=gG (heap_alloc_new w2 _) (by omega) aGe m3;have zR3:=gG (zR.alloc _) (by omega) aGd m3;have HL:=qH (wu.next f2 (m2.alloc _) (h3.led m3));have i0:=zI.cell 0 rfl;have i1:=zI.cell 1 rfl;have i2:=zI.cell 2 rfl;have z0:=zR3.cell 0 rfl;have z1:=zR3.cell 1 rfl;have z2:=zR3.cell 2 rfl;have g0:=zR3.free 0;have g1:=zR3.free 1;have g2:=zR3.free 2;clear h2 f2 m2 h3 m3 zI zR zR3;go_wp2;exact bodyPost_ret (v:=.agg #[.bool y.e,.int .u32 y.f,.int .u32 y.l]) (by simp[results,results160,go_sem,z0,z1,z2]) rfl ⟨rfl,hx,HL.o.fin hb HOWN.o _ _ _⟩
end
section
variable {w w1 w2 w':World} {b:Nat} {s:ByteArray} {vp vp1:Value} {p p1 p2:PS}
theorem Zz(hs:s.size<=1048576)(hC:Vo s f):Sm s (f+1):=by
 intro w b vp p d x p' h hd hM;have hb:=h.lt;have HOWN:=qH fun g (hg:vp.ownBlock=some g)=>h.own (g:=g) hg
 have hvR:vp.ownBlock≠some w.heap.size:=fun e=>by have:=h.own e;omega
 have hbR:b≠w.heap.size:=by omega
 have Y6:Hd (∀wx,iC wx b s vp p->J1 113 #[Jx b 0,.int .u8 40] wx fun e w'=>e=.returned (.bool (aI.sees s.data.toList 40 p))∧∃n,w'=wx.drewN n):=fun wx hx=>Vk hx 40 hs
 have HS2:Hd (∀wx,iC wx b s vp p->J1 113 #[Jx b 0,.int .u8 91] wx fun e w'=>e=.returned (.bool (aI.sees s.data.toList 91 p))∧∃n,w'=wx.drewN n):=fun wx hx=>Vk hx 91 hs
 have HS3:Hd (∀wx,iC wx b s vp p->J1 81 #[Jx b 0,.int .u8 46] wx fun e w'=>e=.returned (.bool (aI.sees s.data.toList 46 p))∧iC w' b s vp (iW s.data.toList 46 p)∧Mod (Pt b vp) wx w'):=fun wx hx=>Om hx 46 hs
 have h5:iC (w.alloc (.cells #[.bool false,.int .u32 0,.int .u32 0] 130)) b s vp p:=h.alloc _;have m5:Mod (Pt b vp) (w.alloc (.cells #[.bool false,.int .u32 0,.int .u32 0] 130)) (w.alloc (.cells #[.bool false,.int .u32 0,.int .u32 0] 130)):=Mod.refl _ _;have iH:aG (w.alloc (.cells #[.bool false,.int .u32 0,.int .u32 0] 130)) w.heap.size [.bool false,.int .u32 0,.int .u32 0] 130:=heap_alloc_new w _;clear h;rw[show NR s.data.toList (f+1) d p=(if aI.sees s.data.toList 40 p then brM s.data.toList f d p else if aI.sees s.data.toList 91 p then IV s.data.toList p else if aI.sees s.data.toList 46 p then (match iZ p.ps (dS [])with | none=>none | some (q,ps)=>some (q,{ p with k:=p.k+1,ps:=ps })) else (match iZ (dN s.data.toList p).2.ps (aI.allOf (dN s.data.toList p).1 aX)with | none=>none | some (q,ps)=>some (q,{ (dN s.data.toList p).2 with ps:=ps }))) from rfl]at hM
 cases c1:aI.sees s.data.toList 40 p with
 | true=>
  rw[c1,aP rfl]at hM;rw[c1]at Y6;have HB:=qH fun wx (hx:iC wx b s vp p)=>LQ hx hs hC hd hM
  clear hM HS2 HS3 c1;go_enter func155,ntmps155;go_wp2_with fail;refine(Y6.o _ h5).mono ?_;rintro e w9 ⟨rfl,n9,rfl⟩;have m5:=m5.drewN n9;have h5:=h5.drewN n9;have iH:=iH.drewN n9;generalize (w.alloc (.cells #[.bool false,.int .u32 0,.int .u32 0] 130)).drewN n9=w5 at m5 h5 iH ⊢;go_wp2_with fail;refine(HB.o _ h5).mono ?_;rintro e w6 ⟨rfl,hx,hL⟩;clear HB Y6;have zR:=hL.keep iH hbR hvR;have HL:=qH (wu.next (aN.refl _ _) m5 hL);have z0:=zR.cell 0 rfl;have z1:=zR.cell 1 rfl;have z2:=zR.cell 2 rfl;have g0:=zR.free 0;have g1:=zR.free 1;have g2:=zR.free 2;clear hL m5 iH zR h5;go_wp2;exact bodyPost_ret (v:=.agg #[.bool x.e,.int .u32 x.f,.int .u32 x.l]) (by simp[results,results155,go_sem,z0,z1,z2]) rfl ⟨rfl,hx,HL.o.fin hb HOWN.o _ _ _⟩
 | false=>
  rw[c1,aU (by simp)]at hM;rw[c1]at Y6
  cases c2:aI.sees s.data.toList 91 p with
  | true=>
   rw[c2,aP rfl]at hM;rw[c2]at HS2;have HB:=qH fun wx (hx:iC wx b s vp p)=>set_any hx hs hM
   clear hM HS3 c1 c2;go_enter func155,ntmps155;go_wp2_with fail;refine(Y6.o _ h5).mono ?_;rintro e w9 ⟨rfl,n9,rfl⟩;have m5:=m5.drewN n9;have h5:=h5.drewN n9;have iH:=iH.drewN n9;generalize (w.alloc (.cells #[.bool false,.int .u32 0,.int .u32 0] 130)).drewN n9=w5 at m5 h5 iH ⊢;go_wp2_with fail;refine(HS2.o _ h5).mono ?_;rintro e w9 ⟨rfl,n9,rfl⟩;have m5:=m5.drewN n9;have h5:=h5.drewN n9;have iH:=iH.drewN n9;generalize w5.drewN n9=w5 at m5 h5 iH ⊢;go_wp2_with fail;refine(HB.o _ h5).mono ?_;rintro e w6 ⟨rfl,hx,hL⟩;clear HB Y6 HS2;have zR:=hL.keep iH hbR hvR;have HL:=qH (wu.next (aN.refl _ _) m5 hL);have z0:=zR.cell 0 rfl;have z1:=zR.cell 1 rfl;have z2:=zR.cell 2 rfl;have g0:=zR.free 0;have g1:=zR.free 1;have g2:=zR.free 2;clear hL m5 iH zR h5;go_wp2;exact bodyPost_ret (v:=.agg #[.bool x.e,.int .u32 x.f,.int .u32 x.l]) (by simp[results,results155,go_sem,z0,z1,z2]) rfl ⟨rfl,hx,HL.o.fin hb HOWN.o _ _ _⟩
  | false=>
   rw[c2,aU (by simp)]at hM;rw[c2]at HS2
   cases c3:aI.sees s.data.toList 46 p with
   | true=>
    rw[c3,aP rfl]at hM;rw[c3,show iW s.data.toList 46 p={ p with k:=p.k+1 } by unfold iW;rw[aP c3]]at HS3;have HB:Hd (∀wx,J1 162 #[.string ⟨#[]⟩] wx fun e w'=>e=.returned (Y4 (dS []))∧Mod No wx w'):=fun wx=>Fv ⟨#[]⟩ wx (by decide)
    generalize dS []=tb at hM HB;have ha:∃xx ps,iZ p.ps tb=some (xx,ps)∧xx=x∧{ p with k:=p.k+1,ps:=ps }=p':=by
     cases hadd:iZ p.ps tb with
     | none=>simp[hadd]at hM
     | some r=>obtain⟨xx,ps⟩:=r;simp[hadd]at hM;exact⟨xx,ps,rfl,hM.1,hM.2⟩
    obtain⟨xx,ps,ha,rfl,rfl⟩:=ha;have HA:=qH ha;clear ha hM;clear c1 c2 c3;go_enter func155,ntmps155;go_wp2_with fail;refine(Y6.o _ h5).mono ?_;rintro e w9 ⟨rfl,n9,rfl⟩;have m5:=m5.drewN n9;have h5:=h5.drewN n9;have iH:=iH.drewN n9;generalize (w.alloc (.cells #[.bool false,.int .u32 0,.int .u32 0] 130)).drewN n9=w5 at m5 h5 iH ⊢;go_wp2_with fail;refine(HS2.o _ h5).mono ?_;rintro e w9 ⟨rfl,n9,rfl⟩;have m5:=m5.drewN n9;have h5:=h5.drewN n9;have iH:=iH.drewN n9;generalize w5.drewN n9=w5 at m5 h5 iH ⊢;go_wp2_with fail;refine(HS3.o _ h5).mono ?_;rintro e w6 ⟨rfl,h6,m6⟩;have iH:=gG iH (fun e=>hbR e.symm) hvR m6;have m5:=m5.trans m6;have HP:=qH h6;clear h5 h6 m6 Y6 HS2 HS3;go_wp2_with fail;go_region_with (first | (go_at_call 162;refine((HB.o _)).mono ?_;rintro e wA ⟨rfl,mA⟩) | (go_at_call 114;refine(Fz (HP.o.drew.no mA) tb HA.o).mono ?_;rintro e wB ⟨rfl,hx,hL⟩;have zR:=hL.keep (iH.drew.mod mA (fun x=>x)) hbR hvR;have z0:=zR.cell 0 rfl;have z1:=zR.cell 1 rfl;have z2:=zR.cell 2 rfl;have g0:=zR.free 0;have g1:=zR.free 1;have g2:=zR.free 2));all_goals
     have HL:=qH (wu.next (aN.refl _ _) (m5.drew.no mA) hL);clear hL mA m5 iH HP zR;go_wp2;exact bodyPost_ret (v:=.agg #[.bool xx.e,.int .u32 xx.f,.int .u32 xx.l]) (by simp[results,results155,go_sem,z0,z1,z2]) rfl ⟨rfl,hx,HL.o.fin hb HOWN.o _ _ _⟩
   | false=>
    rw[c3,aU (by simp)]at hM;rw[c3,show iW s.data.toList 46 p=p by unfold iW;rw[c3,aU (by simp)]]at HS3;have Ox:=qH fun wx (hx:iC wx b s vp p)=>aB2 hx hs
    have HB:Hd (∀wx,J1 115 #[.string ⟨(dN s.data.toList p).1.toArray⟩] wx fun e w'=>e=.returned (Y4 (aI.allOf (dN s.data.toList p).1 aX))∧Mod No wx w'):=fun wx=>wZ ⟨(dN s.data.toList p).1.toArray⟩ wx (by
     show (dN s.data.toList p).1.toArray.size<=1048576
     unfold dN
     split
     ·simp
     ·split <;> simp)
    generalize dN s.data.toList p=r at hM Ox HB;obtain⟨rl,q3⟩:=r;simp only at hM Ox HB;generalize aI.allOf rl aX=ta at hM HB;generalize (⟨rl.toArray⟩:ByteArray)=S at Ox HB;have ha:∃xx ps,iZ q3.ps ta=some (xx,ps)∧xx=x∧{ q3 with ps:=ps }=p':=by
     cases hadd:iZ q3.ps ta with
     | none=>simp[hadd]at hM
     | some r=>obtain⟨xx,ps⟩:=r;simp[hadd]at hM;exact⟨xx,ps,rfl,hM.1,hM.2⟩
    obtain⟨xx,ps,ha,rfl,rfl⟩:=ha;have HA:=qH ha;clear ha hM;clear c1 c2 c3;go_enter func155,ntmps155;go_wp2_with fail;refine(Y6.o _ h5).mono ?_;rintro e w9 ⟨rfl,n9,rfl⟩;have m5:=m5.drewN n9;have h5:=h5.drewN n9;have iH:=iH.drewN n9;generalize (w.alloc (.cells #[.bool false,.int .u32 0,.int .u32 0] 130)).drewN n9=w5 at m5 h5 iH ⊢;go_wp2_with fail;refine(HS2.o _ h5).mono ?_;rintro e w9 ⟨rfl,n9,rfl⟩;have m5:=m5.drewN n9;have h5:=h5.drewN n9;have iH:=iH.drewN n9;generalize w5.drewN n9=w5 at m5 h5 iH ⊢;go_wp2_with fail;refine(HS3.o _ h5).mono ?_;rintro e w6 ⟨rfl,h6,m6⟩;have iH:=gG iH (fun e=>hbR e.symm) hvR m6;have m5:=m5.trans m6;clear h5 Y6 HS2 HS3 m6;go_wp2_with fail;refine(Ox.o _ h6).mono ?_;rintro e w7 ⟨rfl,h7,m7⟩;have iH:=gG iH (fun e=>hbR e.symm) hvR m7;have m5:=m5.trans m7;have HP:=qH h7;clear h6 h7 m7 Ox;go_wp2_with fail;go_region_with (first | (go_at_call 115;refine((HB.o _)).mono ?_;rintro e wA ⟨rfl,mA⟩) | (go_at_call 114;refine(Fz (HP.o.drew.no mA) ta HA.o).mono ?_;rintro e wB ⟨rfl,hx,hL⟩;have zR:=hL.keep (iH.drew.mod mA (fun x=>x)) hbR hvR;have z0:=zR.cell 0 rfl;have z1:=zR.cell 1 rfl;have z2:=zR.cell 2 rfl;have g0:=zR.free 0;have g1:=zR.free 1;have g2:=zR.free 2));all_goals
     have HL:=qH (wu.next (aN.refl _ _) (m5.drew.no mA) hL);clear hL mA m5 iH HP zR;go_wp2;exact bodyPost_ret (v:=.agg #[.bool xx.e,.int .u32 xx.f,.int .u32 xx.l]) (by simp[results,results155,go_sem,z0,z1,z2]) rfl ⟨rfl,hx,HL.o.fin hb HOWN.o _ _ _⟩
end
def BB(x:aI.Piece):List Value:=[.bool x.e,.int .u32 x.f,.int .u32 x.l]
theorem XI{y:aI.Piece}(hx:xg x)(hy:xg y):xg (mJ x y):=⟨wY hx.1 hy.1,wY hx.2 hy.2⟩
theorem aG.vX{a0 a1 a2:Value}(h:aG w L [a0,a1,a2] T)(b0 b1 b2:Value):aG (((w.setCell (J L 0) b0).setCell (J L 1) b1).setCell (J L 2) b2) L [b0,b1,b2] T:=((h.set 0 b0).set 1 b1).set 2 b2
theorem aG.GN{M:Nat}(h:aG w M cs T)(hne:M≠L)(b0 b1 b2:Value):aG (((w.setCell (J L 0) b0).setCell (J L 1) b1).setCell (J L 2) b2) M cs T:=((h.other (a:=J L 0) hne b0).other (a:=J L 1) hne b1).other (a:=J L 2) hne b2
theorem Mod.vX{S:Nat->Prop}{w1:World}(h:Mod S w w1)(hL:w.heap.size<=L)(b0 b1 b2:Value):Mod S w (((w1.setCell (J L 0) b0).setCell (J L 1) b1).setCell (J L 2) b2):=((h.setCell (a:=J L 0) (fun h=>absurd h (by simp;omega)) b0).setCell (a:=J L 1) (fun h=>absurd h (by simp;omega)) b1).setCell (a:=J L 2) (fun h=>absurd h (by simp;omega)) b2
section
variable {w w1 w2 w':World} {b:Nat} {s:ByteArray} {vp vp1:Value} {p p1 p2:PS}
theorem iC.vX(h:iC w b s vp p)(hb:b≠L)(hv:vp.ownBlock≠some L)(b0 b1 b2:Value):iC (((w.setCell (J L 0) b0).setCell (J L 1) b1).setCell (J L 2) b2) b s vp p:=((h.other (a:=J L 0) hb hv b0).other (a:=J L 1) hb hv b1).other (a:=J L 2) hb hv b2
structure kN(s:ByteArray)(W0:World)(b:Nat)(vp:Value)(R L:Nat)(vk:Value)(pk:PS)(wh:aI.Piece)(wr:World):Prop where
 je:iC wr b s vk pk
 fr:aN W0 vp vk
 md:Mod (Pt b vp) W0 wr
 res:aG wr R [.bool false,.int .u32 0,.int .u32 0] 130
 who:aG wr L (BB wh) 130
 ok:xg wh
 nR:vk.ownBlock≠some R
 nL:vk.ownBlock≠some L
theorem Vp(hs:s.size<=1048576)(hR:∀g,g<F->Zy s g):Vo s F:=by
 intro w b vp p d x p' h hd hM;have hb:=h.lt;have HOWN:=qH fun g (hg:vp.ownBlock=some g)=>h.own (g:=g) hg
 have hvR:vp.ownBlock≠some w.heap.size:=fun e=>by have:=h.own e;omega
 have hbR:b≠w.heap.size:=by omega
 match F,hM,hR with
 | 0,hM,_=>rw[aC3]at hM;cases hM
 | f+1,hM,hR=>
  rw[aC4]at hM
  cases hr:Jw s.data.toList f d ⟨true,0,0⟩ p with
  | none=>rw[hr]at hM;cases hM
  | some r=>
   obtain⟨w0,p1⟩:=r;rw[hr]at hM;have hM:Ih s.data.toList f d w0 p1=some (x,p'):=hM;have Oc:=qH fun g (hg:g<=f)=>hR g (by omega)
   have H1:=qH fun o=>hR f (by omega) _ b vp p d w0 p1 (h.alloc o) hd hr
   have HM:=qH hM;go_enter func117,ntmps117;go_wp2_with fail;refine(H1.o _).mono ?_;rintro e w1 ⟨rfl,hx0,vp1,h1,f1,m1⟩;have hs1:=m1.size;simp at hs1;have zR1:=gG (heap_alloc_new w _) (by omega) hvR m1;have hI0:Hd (∀o,o=Obj.cells #[.bool w0.e,.int .u32 w0.f,.int .u32 w0.l] 130->kN s (w.alloc (.cells #[.bool false,.int .u32 0,.int .u32 0] 130)) b vp w.heap.size w1.heap.size vp1 p1 w0 (w1.alloc o)):=fun o ho=>by
    subst ho;exact⟨h1.alloc _,f1,m1.alloc _,zR1.alloc _,heap_alloc_new w1 _,hx0,f1.old hvR (by simp),fun e=>by have:=h1.own e;omega⟩
   generalize hL:w1.heap.size=L at hI0 hs1;have HL:=qH hL;have HW0:Hd (Mod No w (w.alloc (.cells #[.bool false,.int .u32 0,.int .u32 0] 130))):=(Mod.refl _ _).alloc _;generalize hW0:w.alloc (.cells #[.bool false,.int .u32 0,.int .u32 0] 130)=W0 at hI0;have HW1:=qH hW0;go_wp2_with fail;have hbL:b≠L:=by omega
   go_loopg [6] f (fun g _ wr=>∃vk pk wh,kN s W0 b vp w.heap.size L vk pk wh wr∧g<=f∧Ih s.data.toList g d wh pk=some (x,p'))
   case atStart=>exact⟨vp1,p1,w0,hI0.o _ rfl,dH _,HM.o⟩
   case round=>
    obtain⟨vk,pk,wh,hI,hg,hrow⟩:=hrel
    match gk,hg,hrow with
    | 0,_,hrow=>rw[aBi]at hrow;cases hrow
    | g+1,hg,hrow=>
     rw[aBj]at hrow;have iY:=Om hI.je 124 hs;have hRL:w.heap.size≠L:=by omega
     have Sr:W0.heap.size<=L:=by rw[<-HW1.o];simp;omega
     have aHw:w.heap.size<W0.heap.size:=by rw[<-HW1.o];simp
     cases c:aI.sees s.data.toList 124 pk with
     | true=>
      rw[c,aP rfl]at hrow;rw[c,show iW s.data.toList 124 pk={ pk with k:=pk.k+1 } by unfold iW;rw[aP c]]at iY
      cases hr:Jw s.data.toList g d ⟨true,0,0⟩ { pk with k:=pk.k+1 } with
      | none=>rw[hr]at hrow;cases hrow
      | some r=>
       obtain⟨y,q⟩:=r;rw[hr]at hrow;have HN:Hd (Ih s.data.toList g d (mJ wh y) q=some (x,p')):=hrow;have HC:=qH fun wx (hx:iC wx b s vk { pk with k:=pk.k+1 })=>Oc.o g (by omega) wx b vk _ d y q hx hd hr
       have HE:=qH fun wx (hy:xg y)=>Ry wh y wx hI.ok hy
       have HI:=qH hI;generalize hez:mJ wh y=z at HN HE;have HZ:Hd (xg y->xg z):=fun hy=>by rw[<-hez];exact XI hI.ok hy
       go_wp2_with fail;refine iY.mono ?_;rintro e w2 ⟨rfl,h2,m2⟩;go_wp2_with fail;refine(HC.o _ h2).mono ?_;rintro e w3 ⟨rfl,hy,v3,h3,f3,m3⟩;have m3:=m2.trans m3;have f3:=(aN.refl _ _).trans f3 m2.size;have zL:=gG HI.o.who (fun e=>hbL e.symm) HI.o.nL m3;have zR:=gG HI.o.res (fun e=>hbR e.symm) HI.o.nR m3;have hL3:=zL.lt;have l0:=zL.aS 0 rfl;have l1:=zL.aS 1 rfl;have l2:=zL.aS 2 rfl;go_wp2_with fail;refine(HE.o _ hy).mono ?_;rintro e w4 ⟨rfl,m4⟩;have m4:Mod No w3 w4:=((Mod.refl _ _).alloc _).no m4;have zL4:=zL.mod m4 (fun x=>x);have zR4:=zR.mod m4 (fun x=>x);have HI2:Hd (∀b0 b1 b2,b0=.bool z.e->b1=.int .u32 z.f->b2=.int .u32 z.l->kN s W0 b vp w.heap.size L v3 q z (((w4.setCell (J L 0) b0).setCell (J L 1) b1).setCell (J L 2) b2)):=fun b0 b1 b2 e0 e1 e2=>by
        subst e0 e1 e2;have n1:=f3.old HI.o.nL HI.o.who.lt;have n2:=f3.old HI.o.nR HI.o.res.lt;exact⟨(h3.no m4).vX hbL n1 _ _ _,HI.o.fr.trans f3 HI.o.md.size,((HI.o.md.trans' m3 (Pt.fresh HI.o.fr)).no m4).vX Sr _ _ _,zR4.GN hRL _ _ _,zL4.vX _ _ _,HZ.o hy,n2,n1⟩
       have q0:=zL4.cell 0 rfl;have q1:=zL4.cell 1 rfl;have q2:=zL4.cell 2 rfl;have g0:=zL4.free 0;have g1:=zL4.free 1;have g2:=zL4.free 2;go_wp2;go_roundg g
       case measure=>omega
       case rel=>exact⟨v3,q,z,HI2.o _ _ _ rfl rfl rfl,by omega,HN.o⟩
     | false=>
      rw[c,aU (by simp)]at hrow;simp only[Option.some.injEq,Prod.mk.injEq]at hrow;obtain⟨rfl,rfl⟩:=hrow;rw[c,show iW s.data.toList 124 pk=pk by unfold iW;rw[c,aU (by simp)]]at iY;have HI:=qH hI;go_wp2_with fail;refine iY.mono ?_;rintro e w2 ⟨rfl,h2,m2⟩;have zL:=gG HI.o.who (fun e=>hbL e.symm) HI.o.nL m2;have zR:=gG HI.o.res (fun e=>hbR e.symm) HI.o.nR m2;have HLD:Hd (wu (w.alloc (.cells #[.bool false,.int .u32 0,.int .u32 0] 130)) w2 b s vp pk):=by rw[HW1.o];exact wu.next HI.o.fr HI.o.md (h2.led m2)
      have l0:=zL.cell 0 rfl;have l1:=zL.cell 1 rfl;have l2:=zL.cell 2 rfl;have z0:=zR.cell 0 rfl;have z1:=zR.cell 1 rfl;have z2:=zR.cell 2 rfl;have g0:=zR.free 0;have g1:=zR.free 1;have g2:=zR.free 2;go_wp2;exact bodyPost_ret (v:=.agg #[.bool wh.e,.int .u32 wh.f,.int .u32 wh.l]) (by simp[results,results117,go_sem,z0,z1,z2]) rfl ⟨rfl,HI.o.ok,HLD.o.fin hb HOWN.o _ _ _⟩
end
section
variable {w w1 w2 w':World} {b:Nat} {s:ByteArray} {vp vp1:Value} {p p1 p2:PS}
theorem kN.drewN(h:kN s W0 b vp R L vk pk wh wr)(n:Nat):kN s W0 b vp R L vk pk wh (wr.drewN n):=⟨h.je.drewN n,h.fr,h.md.drewN n,h.res.drewN n,h.who.drewN n,h.ok,h.nR,h.nL⟩
theorem kN.drew(h:kN s W0 b vp R L vk pk wh wr):kN s W0 b vp R L vk pk wh wr.drew:=⟨h.je.drew,h.fr,h.md.drew,h.res.drew,h.who.drew,h.ok,h.nR,h.nL⟩
theorem kN.alloc(h:kN s W0 b vp R L vk pk wh wr)(o:Obj):kN s W0 b vp R L vk pk wh (wr.alloc o):=⟨h.je.alloc o,h.fr,h.md.alloc o,h.res.alloc o,h.who.alloc o,h.ok,h.nR,h.nL⟩
theorem kN.step{v3:Value}{q:PS}{w3:World}(h:kN s W0 b vp R L vk pk wh wr)(hbR:b≠R)(hbL:b≠L)(h3:iC w3 b s v3 q)(f3:aN wr vk v3)(m3:Mod (Pt b vk) wr w3):kN s W0 b vp R L v3 q wh w3:=⟨h3,h.fr.trans f3 h.md.size,h.md.trans' m3 (Pt.fresh h.fr),gG h.res (fun e=>hbR e.symm) h.nR m3,gG h.who (fun e=>hbL e.symm) h.nL m3,h.ok,f3.old h.nR h.res.lt,f3.old h.nL h.who.lt⟩
theorem kN.put{z:aI.Piece}(h:kN s W0 b vp R L vk pk wh wr)(hbL:b≠L)(hRL:R≠L)(hL:W0.heap.size<=L)(hz:xg z)(e0:b0=.bool z.e)(e1:b1=.int .u32 z.f)(e2:b2=.int .u32 z.l):kN s W0 b vp R L vk pk z (((wr.setCell (J L 0) b0).setCell (J L 1) b1).setCell (J L 2) b2):=by
 subst e0 e1 e2;exact⟨h.je.vX hbL h.nL _ _ _,h.fr,h.md.vX hL _ _ _,h.res.GN hRL _ _ _,h.who.vX _ _ _,hz,h.nR,h.nL⟩
theorem kN.beside{P:Nat}(h:kN s W0 b vp R L vk pk wh wr)(hbP:b≠P)(hRP:R≠P)(hLP:L≠P)(hP:W0.heap.size<=P)(hv:vk.ownBlock≠some P)(b0 b1 b2:Value):kN s W0 b vp R L vk pk wh (((wr.setCell (J P 0) b0).setCell (J P 1) b1).setCell (J P 2) b2):=⟨h.je.vX hbP hv _ _ _,h.fr,h.md.vX hP _ _ _,h.res.GN hRP _ _ _,h.who.GN hLP _ _ _,h.ok,h.nR,h.nL⟩
theorem Vq(hs:s.size<=1048576)(hP:∀g,g<F->Sm s g):Zy s F:=by
 intro w b vp p d x p' h hd hM;have hb:=h.lt;have HOWN:=qH fun g (hg:vp.ownBlock=some g)=>h.own (g:=g) hg
 have hvR:vp.ownBlock≠some w.heap.size:=fun e=>by have:=h.own e;omega
 have hbR:b≠w.heap.size:=by omega
 have aE4:=qH hP;have HM:=qH hM;have hI0:Hd (kN s (w.alloc (.cells #[.bool false,.int .u32 0,.int .u32 0] 130)) b vp w.heap.size (w.heap.size+1) vp p ⟨true,0,0⟩ ((w.alloc (.cells #[.bool false,.int .u32 0,.int .u32 0] 130)).alloc (.cells #[.bool true,.int .u32 0,.int .u32 0] 130))):=⟨(h.alloc _).alloc _,aN.refl _ _,(Mod.refl _ _).alloc _,gq w _ _,fE w _ _,⟨by decide,by decide⟩,hvR,fun e=>by have:=h.own e;omega⟩;have hRL:w.heap.size≠w.heap.size+1:=by omega
 have hbL:b≠w.heap.size+1:=by omega
 have Sr:(w.alloc (.cells #[.bool false,.int .u32 0,.int .u32 0] 130)).heap.size<=w.heap.size+1:=by simp
 go_enter func140,ntmps140;go_wp2_with fail;generalize hW0:w.alloc (.cells #[.bool false,.int .u32 0,.int .u32 0] 130)=W0 at hI0 Sr;have HW1:=qH hW0;go_loopg [6] F (fun g _ wr=>∃vk pk wh,kN s W0 b vp w.heap.size (w.heap.size+1) vk pk wh wr∧g<=F∧Jw s.data.toList g d wh pk=some (x,p'))
 case atStart=>exact⟨vp,p,⟨true,0,0⟩,by rw[<-HW1.o]at hI0 ⊢;exact hI0.o,dH _,HM.o⟩
 case round=>
  obtain⟨vk,pk,wh,hI,hg,hrow⟩:=hrel
  match gk,hg,hrow with
  | 0,_,hrow=>rw[aC5]at hrow;cases hrow
  | g+1,hg,hrow=>
   rw[aC6]at hrow;have hend:=Sl hI.je hs
   cases c:nN s.data.toList pk with
   | true=>
    rw[c,aP rfl]at hrow;simp only[Option.some.injEq,Prod.mk.injEq]at hrow;obtain⟨rfl,rfl⟩:=hrow;rw[c]at hend;have HI:=qH hI;go_wp2_with fail;refine hend.mono ?_;rintro e w2 ⟨rfl,n2,rfl⟩;have HI2:=HI.o.drewN n2;generalize wr.drewN n2=w2 at HI2 ⊢;have HLD:Hd (wu (w.alloc (.cells #[.bool false,.int .u32 0,.int .u32 0] 130)) w2 b s vp pk):=by rw[HW1.o];exact⟨vk,HI2.je,HI2.fr,HI2.md⟩
    have l0:=HI2.who.cell 0 rfl;have l1:=HI2.who.cell 1 rfl;have l2:=HI2.who.cell 2 rfl;have z0:=HI2.res.cell 0 rfl;have z1:=HI2.res.cell 1 rfl;have z2:=HI2.res.cell 2 rfl;have g0:=HI2.res.free 0;have g1:=HI2.res.free 1;have g2:=HI2.res.free 2;go_wp2;exact bodyPost_ret (v:=.agg #[.bool wh.e,.int .u32 wh.f,.int .u32 wh.l]) (by simp[results,results140,go_sem,z0,z1,z2]) rfl ⟨rfl,HI.o.ok,HLD.o.fin hb HOWN.o _ _ _⟩
   | false=>
    rw[c,aU (by simp)]at hrow;rw[c]at hend
    cases hr:NR s.data.toList g d pk with
    | none=>rw[hr]at hrow;cases hrow
    | some r=>
     obtain⟨y,q⟩:=r;rw[hr]at hrow
     dsimp only at hrow
     cases hst:lW s.data.toList g y q with
     | none=>rw[hst]at hrow;cases hrow
     | some r=>
      obtain⟨y2,q2⟩:=r;rw[hst]at hrow;have HN:Hd (Jw s.data.toList g d (bC q2.ps wh y2).1 { q2 with ps:=(bC q2.ps wh y2).2 }=some (x,p')):=hrow;have HST:=qH hst;have HC:=qH fun wx (hx:iC wx b s vk pk)=>aE4.o g (by omega) wx b vk pk d y q hx hd hr
      have HI:=qH hI;go_wp2_with fail;refine hend.mono ?_;rintro e w2 ⟨rfl,n2,rfl⟩;have HI:=qH (HI.o.drewN n2);generalize wr.drewN n2=w2 at HI ⊢;go_wp2_with fail;refine(HC.o _ HI.o.je).mono ?_;rintro e w3 ⟨rfl,hy,v3,h3,f3,m3⟩;have HI3:=qH (HI.o.step hbR hbL h3 f3 m3);have hL3:=HI3.o.who.lt;have HV3:Hd (v3.ownBlock≠some w3.heap.size):=fun e=>by have:=h3.own e;omega
      have HW3:=qH HI3.o.md.size;have hbP:b≠w3.heap.size:=by have:=h3.lt;omega
      have hRP:w.heap.size≠w3.heap.size:=by omega
      have hLP:w.heap.size+1≠w3.heap.size:=by omega
      have HP0:Hd (∀o,o=Obj.cells #[.bool y.e,.int .u32 y.f,.int .u32 y.l] 130->kN s W0 b vp w.heap.size (w.heap.size+1) v3 q wh (w3.alloc o)∧aG (w3.alloc o) w3.heap.size (BB y) 130):=fun o ho=>⟨HI3.o.alloc o,by subst ho;exact heap_alloc_new w3 _⟩
      go_wp2_with fail;go_loopg [] g (fun h wx=>∃vm qm ym,kN s W0 b vp w.heap.size (w.heap.size+1) vm qm wh wx∧aG wx w3.heap.size (BB ym) 130∧xg ym∧vm.ownBlock≠some w3.heap.size∧lW s.data.toList h ym qm=some (y2,q2))
      case atStart=>exact⟨v3,q,y,(HP0.o _ rfl).1,(HP0.o _ rfl).2,hy,HV3.o,HST.o⟩
      case round=>
       obtain⟨vm,qm,ym,hI,hB,hyo,hvP,hst⟩:=hrel
       match gk,hst with
       | 0,hst=>rw[lW]at hst;cases hst
       | k+1,hst=>
        rw[lW]at hst;have iY:=Om hI.je 42 hs
        cases c:aI.sees s.data.toList 42 qm with
        | true=>
         rw[c,aP rfl]at hst;rw[c,show iW s.data.toList 42 qm={ qm with k:=qm.k+1 } by unfold iW;rw[aP c]]at iY;have HS2:Hd (lW s.data.toList k (sJ qm.ps ym).1 { qm with k:=qm.k+1,ps:=(sJ qm.ps ym).2 }=some (y2,q2)):=hst;have HI:=qH hI;have HB:=qH hB;go_wp2_with fail;refine iY.mono ?_;rintro e w4 ⟨rfl,h4,m4⟩;have HI4:=qH (HI.o.step hbR hbL h4 (aN.refl _ _) m4);have hB4:=gG HB.o (fun e=>hbP e.symm) hvP m4;have HB4:=qH hB4;have a0:=hB4.cell 0 rfl;have a1:=hB4.cell 1 rfl;have a2:=hB4.cell 2 rfl;go_wp2_with fail;go_region_with (go_at_call 156;refine(aGb HI4.o.drew.je hyo).mono ?_;rintro e w5 ⟨rfl,h5,m5⟩;have zP:=gG HB4.o.drew (fun e=>hbP e.symm) hvP m5;have z0:=zP.cell 0 rfl;have z1:=zP.cell 1 rfl;have z2:=zP.cell 2 rfl;have g0:=zP.free 0;have g1:=zP.free 1;have g2:=zP.free 2);all_goals
          have uF:=qH (HI4.o.drew.step hbR hbL h5 (aN.refl _ _) m5);have HZP:=qH zP;have HRO:Hd (xg (sJ qm.ps ym).1):=hyo;generalize sJ qm.ps ym=rr at uF HS2 HRO ⊢;go_wp2;go_roundg k
          case measure=>omega
          case rel=>exact⟨vm,_,rr.1,uF.o.beside hbP hRP hLP HW3.o hvP _ _ _,HZP.o.vX _ _ _,HRO.o,hvP,HS2.o⟩
        | false=>
         rw[c,aU (by simp)]at hst;simp only[Option.some.injEq,Prod.mk.injEq]at hst;obtain⟨rfl,rfl⟩:=hst;rw[c,show iW s.data.toList 42 qm=qm by unfold iW;rw[c,aU (by simp)]]at iY;have HI:=qH hI;have HB:=qH hB;go_wp2_with fail;refine iY.mono ?_;rintro e w4 ⟨rfl,h4,m4⟩;have HI4:=qH (HI.o.step hbR hbL h4 (aN.refl _ _) m4);have hB4:=gG HB.o (fun e=>hbP e.symm) hvP m4;have a0:=hB4.cell 0 rfl;have a1:=hB4.cell 1 rfl;have a2:=hB4.cell 2 rfl;have l0:=HI4.o.who.cell 0 rfl;have l1:=HI4.o.who.cell 1 rfl;have l2:=HI4.o.who.cell 2 rfl;go_wp2_with fail;go_region_with (go_at_call 83;refine(Zr HI4.o.drew.je HI4.o.ok hyo).mono ?_;rintro e w5 ⟨rfl,h5,m5⟩;have zL:=gG HI4.o.drew.who (fun e=>hbL e.symm) HI4.o.nL m5;have z0:=zL.cell 0 rfl;have z1:=zL.cell 1 rfl;have z2:=zL.cell 2 rfl;have g0:=zL.free 0;have g1:=zL.free 1;have g2:=zL.free 2);all_goals
          have uF:=qH (HI4.o.drew.step hbR hbL h5 (aN.refl _ _) m5);have HRO:Hd (xg (bC qm.ps wh ym).1):=LK HI4.o.ok hyo;generalize bC qm.ps wh ym=rr at uF HN HRO ⊢;go_wp2;go_roundg g
          case measure=>omega
          case rel=>exact⟨vm,_,rr.1,uF.o.put hbL hRL Sr HRO.o rfl rfl rfl,by omega,HN.o⟩
end
theorem XJ(s:ByteArray)(hs:s.size<=1048576):∀F g,g<=F->Vo s g∧Zy s g∧Sm s g:=by
 intro F
 induction F with
 | zero=>
  intro g hg;obtain rfl:g=0:=by omega
  refine⟨Vp hs (fun g h=>by omega),Vq hs (fun g h=>by omega),?_⟩;intro w b vp p d x p' h hd hM;rw[aBk]at hM;cases hM
 | succ F ih=>
  intro g hg;by_cases h:g<=F
  ·exact ih g h
  ·obtain rfl:g=F+1:=by omega
   exact⟨Vp hs (fun g h=>(ih g (by omega)).2.1),Vq hs (fun g h=>(ih g (by omega)).2.2),Zz hs (ih F (dH _)).1⟩
section
variable {w w1 w2 w':World} {b:Nat} {s:ByteArray} {vp vp1:Value} {p p1 p2:PS}
def aAa(l:List UInt8)(p:PS):Option (aI.Piece × PS):=if 14<l.length-p.k then some (⟨false,0,0⟩,nP p) else DF l Uj 0 p
theorem XK(h:iC w b s vp p)(hs:s.size<=1048576)(hM:aAa s.data.toList p=some (x,p')):J1 82 #[Jx b 0] w fun e w'=>Gives w b s vp x p' e w':=by
 have hb:=h.lt;have HOWN:=qH fun g (hg:vp.ownBlock=some g)=>h.own (g:=g) hg
 have hvR:vp.ownBlock≠some w.heap.size:=fun e=>by have:=h.own e;omega
 have hbR:b≠w.heap.size:=by omega
 have hks:=h.ks;unfold aAa at hM;rw[bK]at hM;have XL:=qH fun o=>Vm (h.alloc o) hs
 have HP:=qH fun o n=>(h.alloc o).drewN n
 by_cases h3:14<s.size-p.k
 ·rw[aP h3]at hM;simp only[Option.some.injEq,Prod.mk.injEq]at hM;obtain⟨rfl,rfl⟩:=hM;have h3i:(14:Int)<(s.size:Int)-(p.k:Int):=by omega
  generalize (s.size:Int)-(p.k:Int)=D at XL h3i;go_enter func82,ntmps82;go_wp2_with fail;refine(XL.o _).mono ?_;rintro e w1 ⟨rfl,n1,rfl⟩;go_wp2_with fail;refine(Vl (HP.o _ n1)).mono ?_;rintro e w1 ⟨rfl,h1,m1⟩;have hR0:aG (w.alloc (.cells #[.bool false,.int .u32 0,.int .u32 0] 130)) w.heap.size [.bool false,.int .u32 0,.int .u32 0] 130:=heap_alloc_new w _;have zR:=gG (hR0.drewN n1) (fun e=>hbR e.symm) hvR m1;have HL:Hd (wu (w.alloc (.cells #[.bool false,.int .u32 0,.int .u32 0] 130)) w1 b s vp (nP p)):=wu.next (aN.refl _ _) ((Mod.refl _ _).drewN n1) (h1.led m1);have z0:=zR.cell 0 rfl;have z1:=zR.cell 1 rfl;have z2:=zR.cell 2 rfl;have g0:=zR.free 0;have g1:=zR.free 1;have g2:=zR.free 2;go_wp2;exact bodyPost_ret (v:=.agg #[.bool false,.int .u32 0,.int .u32 0]) (by simp[results,results82,go_sem,z0,z1,z2]) rfl ⟨rfl,⟨by decide,by decide⟩,HL.o.fin hb HOWN.o _ _ _⟩
 ·rw[aU h3]at hM;have h3i:¬(14:Int)<(s.size:Int)-(p.k:Int):=by omega
  generalize (s.size:Int)-(p.k:Int)=D at XL h3i;have HC:Hd (∀wx,iC wx b s vp p->J1 117 #[Jx b 0,I 0] wx fun e w'=>Gives wx b s vp x p' e w'):=fun wx hx=>(XJ s hs _ _ (dH _)).1 wx b vp p 0 x p' hx (by omega) hM
  go_enter func82,ntmps82;go_wp2_with fail;refine(XL.o _).mono ?_;rintro e w1 ⟨rfl,n1,rfl⟩;go_wp2_with fail;refine(HC.o _ (HP.o _ n1)).mono ?_;rintro e w1 ⟨rfl,hx,hL⟩;have hR0:aG (w.alloc (.cells #[.bool false,.int .u32 0,.int .u32 0] 130)) w.heap.size [.bool false,.int .u32 0,.int .u32 0] 130:=heap_alloc_new w _;have zR:=hL.keep (hR0.drewN n1) hbR hvR;have HL:Hd (wu (w.alloc (.cells #[.bool false,.int .u32 0,.int .u32 0] 130)) w1 b s vp p'):=wu.next (aN.refl _ _) ((Mod.refl _ _).drewN n1) hL;have z0:=zR.cell 0 rfl;have z1:=zR.cell 1 rfl;have z2:=zR.cell 2 rfl;have g0:=zR.free 0;have g1:=zR.free 1;have g2:=zR.free 2;go_wp2;exact bodyPost_ret (v:=.agg #[.bool x.e,.int .u32 x.f,.int .u32 x.l]) (by simp[results,results82,go_sem,z0,z1,z2]) rfl ⟨rfl,hx,HL.o.fin hb HOWN.o _ _ _⟩
structure rO(s:ByteArray)(W0:World)(b:Nat)(vp:Value)(R L P:Nat)(v3:Value)(q:PS)(wh y:aI.Piece)(wc:World):Prop where
 ctx:kN s W0 b vp R L v3 q wh wc
 blk:aG wc P (BB y) 130
 ok:xg y
 nv:v3.ownBlock≠some P
 nb:b≠P
 nR:R≠P
 nL:L≠P
 le:W0.heap.size<=P
section
variable {W0 wr wA wB:World} {R L:Nat} {vk:Value} {q q':PS} {wh y:aI.Piece}
theorem rO.late(h:kN s W0 b vp R L vk q wh wr)(hbR:b≠R)(hbL:b≠L)(mA:Mod No wr.drew wA)(hL:wu wA wB b s vk q')(hy:xg y)(e0:b0=.bool y.e)(e1:b1=.int .u32 y.f)(e2:b2=.int .u32 y.l):∃v3,rO s W0 b vp R L wB.heap.size v3 q' wh y (wB.alloc (.cells #[b0,b1,b2] 130)):=by
 subst e0 e1 e2;obtain⟨v3,h3,f3,m3⟩:=hL;have m:=((Mod.refl (Pt b vk) wr).drew.no mA);have hc:=h.step hbR hbL h3 ((aN.refl _ _).trans f3 m.size) (m.trans m3);have h1:=hc.res.lt;have h2:=hc.who.lt;have h4:=hc.je.lt;exact⟨v3,hc.alloc _,heap_alloc_new wB _,hy,fun e=>by have:=h3.own e;omega,by omega,by omega,by omega,hc.md.size⟩
theorem rO.mid(h:kN s W0 b vp R L vk q wh wr)(hbR:b≠R)(hbL:b≠L)(mA:Mod No wr.drew wA)(ho:o=Obj.cells #[.bool false,.int .u32 0,.int .u32 0] 130)(hL:wu (wA.alloc o) wB b s vk q')(hy:xg y)(e0:b0=.bool y.e)(e1:b1=.int .u32 y.f)(e2:b2=.int .u32 y.l):∃v3,rO s W0 b vp R L wA.heap.size v3 q' wh y (((wB.setCell (J wA.heap.size 0) b0).setCell (J wA.heap.size 1) b1).setCell (J wA.heap.size 2) b2):=by
 subst e0 e1 e2;obtain⟨v3,h3,f3,m3⟩:=hL;have m:=((Mod.refl (Pt b vk) wr).drew.no mA);have hcA:=h.step hbR hbL ((h.je.drew).no mA) (aN.refl _ _) m;have h1:=hcA.res.lt;have h2:=hcA.who.lt;have h4:=hcA.je.lt;have hvk:vk.ownBlock≠some wA.heap.size:=fun e=>by have:=hcA.je.own e;omega
 have hc:=(hcA.alloc o).step hbR hbL h3 f3 m3;have hP:aG wB wA.heap.size [.bool false,.int .u32 0,.int .u32 0] 130:=gG (by subst ho;exact heap_alloc_new wA _) (by omega) hvk m3;have hv3:=f3.old hvk (by simp);exact⟨v3,hc.beside (by omega) (by omega) (by omega) hcA.md.size hv3 _ _ _,hP.vX _ _ _,hy,hv3,by omega,by omega,by omega,hcA.md.size⟩
theorem rO.early(h:kN s W0 b vp R L vk q wh wr)(hbR:b≠R)(hbL:b≠L)(ho:o=Obj.cells #[.bool false,.int .u32 0,.int .u32 0] 130)(mA:Mod No (wr.drew.alloc o) wA)(hL:wu wA wB b s vk q')(hy:xg y)(e0:b0=.bool y.e)(e1:b1=.int .u32 y.f)(e2:b2=.int .u32 y.l):∃v3,rO s W0 b vp R L wr.heap.size v3 q' wh y (((wB.setCell (J wr.heap.size 0) b0).setCell (J wr.heap.size 1) b1).setCell (J wr.heap.size 2) b2):=by
 subst e0 e1 e2;obtain⟨v3,h3,f3,m3⟩:=hL;have h1:=h.res.lt;have h2:=h.who.lt;have h4:=h.je.lt;have hvk:vk.ownBlock≠some wr.heap.size:=fun e=>by have:=h.je.own e;omega
 have hcA:=(h.drew.alloc o).step hbR hbL ((h.drew.alloc o).je.no mA) (aN.refl _ _) ((Mod.refl (Pt b vk) _).no mA);have hPA:aG wA wr.heap.size [.bool false,.int .u32 0,.int .u32 0] 130:=aG.mod (by subst ho;exact heap_alloc_new wr.drew _) mA (fun x=>x);have hc:=hcA.step hbR hbL h3 f3 m3;have hP:=gG hPA (by omega) hvk m3;have hv3:=f3.old hvk hPA.lt;exact⟨v3,hc.beside (by omega) (by omega) (by omega) h.md.size hv3 _ _ _,hP.vX _ _ _,hy,hv3,by omega,by omega,by omega,h.md.size⟩
end
theorem pM(t:ByteArray)(ht:t.size<=1048576)(h:iC w b s vp p){ps:List aI.Place}(hM:aI.bW t.data.toList ⟨true,0,0⟩ p.ps=some (x,ps)):J1 80 #[Jx b 0,.string t] w fun e w'=>Gives w b s vp x { p with ps:=ps } e w':=by
 have hb:=h.lt;have HOWN:=qH fun g (hg:vp.ownBlock=some g)=>h.own (g:=g) hg
 have hvR:vp.ownBlock≠some w.heap.size:=fun e=>by have:=h.own e;omega
 have hbR:b≠w.heap.size:=by omega
 have hI0:Hd (kN s (w.alloc (.cells #[.bool false,.int .u32 0,.int .u32 0] 130)) b vp w.heap.size (w.heap.size+1) vp p ⟨true,0,0⟩ ((w.alloc (.cells #[.bool false,.int .u32 0,.int .u32 0] 130)).alloc (.cells #[.bool true,.int .u32 0,.int .u32 0] 130))):=⟨(h.alloc _).alloc _,aN.refl _ _,(Mod.refl _ _).alloc _,gq w _ _,fE w _ _,⟨by decide,by decide⟩,hvR,fun e=>by have:=h.own e;omega⟩;have hRL:w.heap.size≠w.heap.size+1:=by omega
 have hbL:b≠w.heap.size+1:=by omega
 have Sr:(w.alloc (.cells #[.bool false,.int .u32 0,.int .u32 0] 130)).heap.size<=w.heap.size+1:=by simp
 obtain⟨l,hl⟩:=eX t.data.toList;rw[<-hl]at hM;have zf:Hd (t.size=l.length):=qH <| by rw[hl,bK]
 have HG:Hd (∀(i:Nat) (h:i<t.size),l[i]?=some t[i]):=fun i h=>by rw[hl];exact Lib.data_getElem? t i h
 have HM:=qH hM;go_enter func80,ntmps80;go_wp2_with fail;generalize hW0:w.alloc (.cells #[.bool false,.int .u32 0,.int .u32 0] 130)=W0 at hI0 Sr;have HW1:=qH hW0;go_loopg [6,7] t.size (fun g ii _ wr=>∃(i:Nat) (vk:Value) (ps':List aI.Place) (wh:aI.Piece),i<=t.size∧g=t.size-i∧ii=I i∧kN s W0 b vp w.heap.size (w.heap.size+1) vk { p with ps:=ps' } wh wr∧aI.bW (l.drop i) wh ps'=some (x,ps))
 case atStart=>exact⟨0,vp,p.ps,⟨true,0,0⟩,by omega,by omega,rfl,by rw[<-HW1.o]at hI0 ⊢;exact hI0.o,HM.o⟩
 case round=>
  obtain⟨i,vk,ps',wh,hi,hgk,rfl,hI,hw⟩:=hrel;by_cases hlt:i<t.size
  ·have hx:=HG.o i hlt;generalize hc:t[i]=c at hx;have yZ:i<l.length:=by have:=zf.o;omega
   have hdr:l.drop i=c::l.drop (i+1):=by
    rw[kJ yZ];rw[bG yZ]at hx;cases hx;rfl
   rw[hdr,aI.bW]at hw;cases ha:iZ ps' (aI.allOf [c] aX)with
   | none=>rw[ha]at hw;cases hw
   | some r=>
    obtain⟨y,ps1⟩:=r;rw[ha]at hw;have HW:Hd (aI.bW (l.drop (i+1)) (bC ps1 wh y).1 (bC ps1 wh y).2=some (x,ps)):=hw;have HA:Hd (iZ ({ p with ps:=ps' }:PS).ps (aI.allOf [c] aX)=some (y,ps1)):=ha;have Oj:Hd (∀wx,J1 115 #[.string (t.extract i (i+1))] wx fun e w'=>e=.returned (Y4 (aI.allOf [c] aX))∧Mod No wx w'):=fun wx=>by
     rw[CZ t i hlt,hc];exact wZ ⟨#[c]⟩ wx (by show (1:Nat)<=_;omega)
    have HI:=qH hI;have hi1:(i:Int)<t.size:=by omega
    have hi2:(i:Int)+1<=(t.size:Int):=by omega
    have hi3:(0:Int)<=(i:Int)+1:=by omega
    have hi4:(i:Int)<=i+1:=by omega
    have hi5:(0:Int)<=(i:Int):=by omega
    have ht:((i:Int)+1).toNat=i+1:=by omega
    have hwr:IntKind.i64.wrap ((i:Int)+1)=(i:Int)+1:=by rw[IntKind.wrap_i64];omega
    generalize aI.allOf [c] aX=ta at HA Oj;generalize hE:t.extract i (i+1)=E at Oj;go_wp2_with fail;have hbw:=HI.o.je.lt;have HV1:Hd (∀k,wr.heap.size<=k->vk.ownBlock≠some k):=fun k hk e=>by have:=HI.o.je.own e;omega
    go_cut [7] from 9 to 30 (fun s7 wc=>∃P v3,s7=Jx P 0∧rO s W0 b vp w.heap.size (w.heap.size+1) P v3 { p with ps:=ps1 } wh y wc)
    case first=>
     go_region_with (first | (go_at_call 115;refine(Oj.o _).mono ?_;rintro e wA ⟨rfl,mA⟩) | (go_at_call 114;refine(Fz (HI.o.drew.je.no mA) ta HA.o).mono ?_;rintro e wB ⟨rfl,hy,hL⟩) | (go_at_call 114;refine(Fz ((HI.o.drew.je.no mA).alloc _) ta HA.o).mono ?_;rintro e wB ⟨rfl,hy,hL⟩;have zP:=hL.keep (aG.new wA [.bool false,.int .u32 0,.int .u32 0] 130) (by have:=mA.size;change wr.heap.size<=wA.heap.size at this;omega) (HV1.o _ (by have:=mA.size;change wr.heap.size<=wA.heap.size at this;omega));have z0:=zP.cell 0 rfl;have z1:=zP.cell 1 rfl;have z2:=zP.cell 2 rfl;have g0:=zP.free 0;have g1:=zP.free 1;have g2:=zP.free 2) | (go_at_call 114;refine(Fz ((HI.o.drew.je.alloc _).no mA) ta HA.o).mono ?_;rintro e wB ⟨rfl,hy,hL⟩;have zP:aG wB wr.heap.size [.bool false,.int .u32 0,.int .u32 0] 130:=hL.keep ((aG.new wr.drew [.bool false,.int .u32 0,.int .u32 0] 130).mod mA (fun x=>x)) (by show b≠wr.heap.size;omega) (HV1.o _ (dH _));have z0:=zP.cell 0 rfl;have z1:=zP.cell 1 rfl;have z2:=zP.cell 2 rfl;have g0:=zP.free 0;have g1:=zP.free 1;have g2:=zP.free 2));all_goals (try go_wp2_with fail)
     all_goals go_meet
     all_goals first
      | exact⟨_,(rO.late HI.o hbR hbL mA hL hy rfl rfl rfl).choose,rfl,(rO.late HI.o hbR hbL mA hL hy rfl rfl rfl).choose_spec⟩
      | exact⟨_,(rO.mid HI.o hbR hbL mA rfl hL hy rfl rfl rfl).choose,rfl,(rO.mid HI.o hbR hbL mA rfl hL hy rfl rfl rfl).choose_spec⟩
      | exact⟨_,(rO.early HI.o hbR hbL rfl mA hL hy rfl rfl rfl).choose,rfl,(rO.early HI.o hbR hbL rfl mA hL hy rfl rfl rfl).choose_spec⟩
    case rest=>
     obtain⟨P,v3,rfl,hP⟩:=hcut;have HP:=qH hP;have a0:=hP.blk.cell 0 rfl;have a1:=hP.blk.cell 1 rfl;have a2:=hP.blk.cell 2 rfl;have l0:=hP.ctx.who.cell 0 rfl;have l1:=hP.ctx.who.cell 1 rfl;have l2:=hP.ctx.who.cell 2 rfl;go_wp2_with fail;go_region_with (go_at_call 83;refine(Zr HP.o.ctx.drew.je HP.o.ctx.ok HP.o.ok).mono ?_;rintro e w5 ⟨rfl,h5,m5⟩;have zL:=gG HP.o.ctx.drew.who (fun e=>hbL e.symm) HP.o.ctx.nL m5;have z0:=zL.cell 0 rfl;have z1:=zL.cell 1 rfl;have z2:=zL.cell 2 rfl;have g0:=zL.free 0;have g1:=zL.free 1;have g2:=zL.free 2);all_goals
      have uF:=qH (HP.o.ctx.drew.step hbR hbL h5 (aN.refl _ _) m5);have HRO:Hd (xg (bC ps1 wh y).1):=LK HP.o.ctx.ok HP.o.ok;generalize bC ps1 wh y=rr at uF HW HRO ⊢;go_wp2;go_roundg (t.size-(i+1))
      case measure=>omega
      case rel=>exact⟨i+1,v3,rr.2,rr.1,by omega,rfl,by go_num,uF.o.put hbL hRL Sr HRO.o rfl rfl rfl,HW.o⟩
  ·have hw:aI.bW [] wh ps'=some (x,ps):=by
    have e:l.drop i=[]:=drop_of_length_le (by have:=zf.o;omega);rw[e]at hw;exact hw
   simp only[aI.bW,Option.some.injEq,Prod.mk.injEq]at hw;obtain⟨rfl,rfl⟩:=hw;have HI:=qH hI;have HLD:Hd (wu (w.alloc (.cells #[.bool false,.int .u32 0,.int .u32 0] 130)) wr b s vp { p with ps:=ps' }):=by rw[HW1.o];exact⟨vk,hI.je,hI.fr,hI.md⟩
   have l0:=hI.who.cell 0 rfl;have l1:=hI.who.cell 1 rfl;have l2:=hI.who.cell 2 rfl;have z0:=hI.res.cell 0 rfl;have z1:=hI.res.cell 1 rfl;have z2:=hI.res.cell 2 rfl;have g0:=hI.res.free 0;have g1:=hI.res.free 1;have g2:=hI.res.free 2;have hlt2:¬(i:Int)<t.size:=by omega
   go_wp2;exact bodyPost_ret (v:=.agg #[.bool wh.e,.int .u32 wh.f,.int .u32 wh.l]) (by simp[results,results80,go_sem,z0,z1,z2]) rfl ⟨rfl,HI.o.ok,HLD.o.fin hb HOWN.o _ _ _⟩
end
end Go.Proofs.YtoebidlghdidoaaGreatDoor
