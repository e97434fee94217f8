import Derived.Test.YtoebidlghdidoaaGreatDoorAM
set_option maxHeartbeats 4000000
set_option maxRecDepth 100000
namespace Go.Proofs.YtoebidlghdidoaaGreatDoor
open aI Tryz List
section
open Go.RowKit
attribute [local go_sem ↓] Go.wp_at_zero Go.wp_at_succ
attribute [local go_sem] gZ
variable {r:Option aI.Rule} {w w':World} {e:Ending}
def Oy(l fr tt:List UInt8)(m:aI.Piece)(p:PS):Option (Option aI.Rule):=if p.bad||decide (p.k<l.length) then some none else some (some ⟨fr,tt,p.ps,m⟩)
def Sv(l:List UInt8):Option (Option aI.Rule):=let r:=ku lG l ⟨0,false,[]⟩;let t:=ku aI.isS l (eY l 62 r.2)
 if r.1.isEmpty||decide (4<r.1.length)||decide (4<t.1.length) then some none else
 match aI.bW r.1 ⟨true,0,0⟩ t.2.ps with
 | none=>none
 | some (m,ps)=>
  if aI.sees l 47 { t.2 with ps:=ps } then
   match aAa l { t.2 with k:=t.2.k+1,ps:=ps } with
   | none=>none
   | some (c,p4)=>Oy l r.1 t.1 (bC p4.ps m c).1 { p4 with ps:=(bC p4.ps m c).2 }
  else Oy l r.1 t.1 m { t.2 with ps:=ps }
theorem aB5(l:List UInt8)(c:UInt8)(p:PS):(eY l c p).ps=p.ps:=by unfold eY;split <;> rfl
theorem aAb(l:List UInt8):uX l=Sv l:=by
 unfold uX Sv
 dsimp only
 have e:(ku aI.isS l (eY l 62 (ku lG l ⟨0,false,[]⟩).2)).2.ps=[]:=by
  show (eY l 62 (ku lG l ⟨0,false,[]⟩).2).ps=[];rw[aB5];rfl
 rw[e];clear e;generalize ku lG l ⟨0,false,[]⟩=r;generalize ku aI.isS l (eY l 62 r.2)=t;by_cases hc:(r.1.isEmpty||decide (4<r.1.length)||decide (4<t.1.length))=true
 ·rw[aP hc,aP hc]
 ·rw[aU hc,aU hc];cases hw:aI.bW r.1 ⟨true,0,0⟩ []with
  | none=>rfl
  | some x=>
   obtain⟨m,ps⟩:=x
   dsimp only
   by_cases h47:aI.sees l 47 { t.2 with ps:=ps }=true
   ·rw[aP h47,aP h47];unfold aAa
    dsimp only
    by_cases h14:14<l.length-(t.2.k+1)
    ·rw[aP h14,aP h14];rfl
    ·rw[aU h14,aU h14];cases DF l Uj 0 { t.2 with k:=t.2.k+1,ps:=ps } <;> rfl
   ·rw[aU h47,aU h47];rfl
def J9(r:aI.Rule)(vp:Value):Value:=.agg #[.string ⟨r.fr.toArray⟩,.string ⟨r.tt.toArray⟩,vp,.bool r.wh.e,.int .u32 r.wh.f,.int .u32 r.wh.l]
def jf:Value:=.agg #[.string ⟨#[]⟩,.string ⟨#[]⟩,.slice none 0 0,.bool false,.int .u32 0,.int .u32 0]
structure DR(w:World)(base:Nat)(r:aI.Rule)(vp:Value):Prop where
 row:Row yY w vp r.ps
 ps:Ob r.ps
 wh:xg r.wh
 new:∀g,vp.ownBlock=some g->base<=g
 fr:r.fr.length<=4
abbrev zero6:List Value:=[.string ⟨#[]⟩,.string ⟨#[]⟩,.slice none 0 0,.bool false,.int .u32 0,.int .u32 0]
structure Sz(s:ByteArray)(W1:World)(b R:Nat)(vk:Value)(pk:PS)(wr:World):Prop where
 je:iC wr b s vk pk
 fr:aN W1 (.slice none 0 0) vk
 md:Mod (Pt b (.slice none 0 0)) W1 wr
 res:aG wr R zero6 134
 nR:vk.ownBlock≠some R
section
variable {s:ByteArray} {W1 wr w3:World} {b R:Nat} {vk v3:Value} {pk q:PS}
theorem Sz.drewN(h:Sz s W1 b R vk pk wr)(n:Nat):Sz s W1 b R vk pk (wr.drewN n):=⟨h.je.drewN n,h.fr,h.md.drewN n,h.res.drewN n,h.nR⟩
theorem Sz.alloc(h:Sz s W1 b R vk pk wr)(o:Obj):Sz s W1 b R vk pk (wr.alloc o):=⟨h.je.alloc o,h.fr,h.md.alloc o,h.res.alloc o,h.nR⟩
theorem Sz.step(h:Sz s W1 b R vk pk wr)(hbR:b≠R)(h3:iC w3 b s v3 q)(f3:aN wr vk v3)(m3:Mod (Pt b vk) wr w3):Sz s W1 b R v3 q w3:=⟨h3,h.fr.trans f3 h.md.size,h.md.trans' m3 (Pt.fresh h.fr),gG h.res (fun e=>hbR e.symm) h.nR m3,f3.old h.nR h.res.lt⟩
theorem Sz.go(h:Sz s W1 b R vk pk wr)(hbR:b≠R)(h3:iC w3 b s vk q)(m3:Mod (Pt b vk) wr w3):Sz s W1 b R vk q w3:=h.step hbR h3 (aN.refl _ _) m3
end
def iD(r:Option aI.Rule)(w:World)(e:Ending)(w':World):Prop:=Mod No w w'∧(match r with | none=>e=.returned (.tuple #[jf,.bool false]) | some ru=>∃vp,e=.returned (.tuple #[J9 ru vp,.bool true])∧DR w' w.heap.size ru vp)
theorem iD.no(hr:r=none)(hm:Mod No w w')(he:e=.returned (.tuple #[jf,.bool false])):iD r w e w':=by subst hr;exact⟨hm,he⟩
theorem iD.yes{ru:aI.Rule}{vp:Value}(hr:r=some ru)(hm:Mod No w w')(he:e=.returned (.tuple #[J9 ru vp,.bool true]))(ho:DR w' w.heap.size ru vp):iD r w e w':=by subst hr;exact⟨hm,vp,he,ho⟩
theorem Mod.LU{S:Nat->Prop}{w1:World}{L:Nat}(h:Mod S w w1)(hL:w.heap.size<=L)(b0 b1 b2 b3 b4 b5:Value):Mod S w ((((((w1.setCell (J L 0) b0).setCell (J L 1) b1).setCell (J L 2) b2).setCell (J L 3) b3).setCell (J L 4) b4).setCell (J L 5) b5):=(((h.vX hL b0 b1 b2).setCell (a:=J L 3) (fun h=>absurd h (by simp;omega)) b3).setCell (a:=J L 4) (fun h=>absurd h (by simp;omega)) b4).setCell (a:=J L 5) (fun h=>absurd h (by simp;omega)) b5
theorem aGf(w1:World)(s:ByteArray)(o:Obj)(ho:o=Obj.cells #[.string s,I 0,.bool false,.slice none 0 0,.bool false,.int .u32 0,.int .u32 0] 185):iC (w1.alloc o) w1.heap.size s (.slice none 0 0) ⟨0,false,[]⟩:=by
 subst ho;exact⟨heap_alloc_new w1 _,Row.nil _ _,by simp[Value.ownBlock],⟨by simp,fun q hq=>by cases hq⟩,Nat.zero_le _⟩
theorem LV(s:ByteArray)(w:World)(hs:s.size<=1048576)(hM:uX s.data.toList=some r):J1 53 #[.string s] w fun e w'=>iD r w e w':=by
 rw[aAb]at hM;unfold Sv at hM
 dsimp only at hM
 have H0:Hd (∀o,J1 67 #[.string s] (w.alloc o) fun e w'=>e=.returned (.agg #[.string s,I 0,.bool false])∧Mod No (w.alloc o) w'):=fun o=>new_any s _
 generalize e1:ku lG s.data.toList ⟨0,false,[]⟩=r1 at hM;have H1:Hd (∀wx b vp,iC wx b s vp ⟨0,false,[]⟩->(⟨r1.1.toArray⟩:ByteArray).size<=1048576∧J1 78 #[Jx b 0,I 0] wx fun e w'=>e=.returned (.string ⟨r1.1.toArray⟩)∧iC w' b s vp r1.2∧Mod (Pt b vp) wx w'):=fun wx b vp hx=>by
  have:=aE0 hx hs;rw[e1]at this;exact⟨by rw[<-e1];exact GL _ hx.ks hs,this⟩
 clear e1;obtain⟨fr,q1⟩:=r1
 dsimp only at hM H1
 generalize e2:eY s.data.toList 62 q1=q2 at hM;have H2:Hd (∀wx b vp,iC wx b s vp q1->J1 79 #[Jx b 0,.int .u8 62] wx fun e w'=>e=.returned (.tuple #[])∧iC w' b s vp q2∧Mod (Pt b vp) wx w'):=fun wx b vp hx=>by
  have:=Oo hx 62 hs;rw[e2]at this;exact this
 clear e2;generalize e3:ku aI.isS s.data.toList q2=r3 at hM;have H3:Hd (∀wx b vp,iC wx b s vp q2->(⟨r3.1.toArray⟩:ByteArray).size<=1048576∧J1 78 #[Jx b 0,I 1] wx fun e w'=>e=.returned (.string ⟨r3.1.toArray⟩)∧iC w' b s vp r3.2∧Mod (Pt b vp) wx w'):=fun wx b vp hx=>by
  have:=aE1 hx hs;rw[e3]at this;exact⟨by rw[<-e3];exact GL _ hx.ks hs,this⟩
 clear e3;obtain⟨tt,q3⟩:=r3
 dsimp only at hM H3
 have hem:=J8 fr;have hl1:(⟨fr.toArray⟩:ByteArray).size=fr.length:=by show fr.toArray.size=_;simp
 have hl2:(⟨tt.toArray⟩:ByteArray).size=tt.length:=by show tt.toArray.size=_;simp
 have HRV:Hd (∀ps wh vp,J9 ⟨fr,tt,ps,wh⟩ vp=.agg #[.string ⟨fr.toArray⟩,.string ⟨tt.toArray⟩,vp,.bool wh.e,.int .u32 wh.f,.int .u32 wh.l]):=fun _ _ _=>rfl
 have HSW:=qH fun wx b vp p x ps (hsz:(⟨fr.toArray⟩:ByteArray).size<=1048576) (hx:iC wx b s vp p) (hm:aI.bW fr ⟨true,0,0⟩ p.ps=some (x,ps))=>pM ⟨fr.toArray⟩ hsz hx hm
 generalize (⟨fr.toArray⟩:ByteArray)=S1 at hem hl1 H1 HRV HSW;generalize (⟨tt.toArray⟩:ByteArray)=S2 at hl2 H3 HRV;have HL1:=qH hl1;have HL2:=qH hl2;have HM:Hd _:=hM;clear hl1 hl2 hM;go_enter func53,ntmps53;go_wp2_with fail;refine(H0.o _).mono ?_;rintro e w1 ⟨rfl,m1⟩;clear H0;have hR1:aG w1 w.heap.size zero6 134:=aG.mod (heap_alloc_new w _) m1 (fun x=>x);have hm1:Mod No w w1:=((Mod.refl _ _).alloc _).no m1;have aGg:w.heap.size<w1.heap.size:=by have:=m1.size;simp at this;omega
 have hI:Hd (∀o,o=Obj.cells #[.string s,I 0,.bool false,.slice none 0 0,.bool false,.int .u32 0,.int .u32 0] 185->Sz s (w1.alloc o) w1.heap.size w.heap.size (.slice none 0 0) ⟨0,false,[]⟩ (w1.alloc o)):=fun o ho=>⟨aGf w1 s o ho,aN.refl _ _,Mod.refl _ _,hR1.alloc _,by simp[Value.ownBlock]⟩
 have DN:=qH hm1;clear hR1 hm1 m1;go_wp2_with fail;have hI0:=hI.o _ rfl;have HW1:Hd (Mod No w (w1.alloc (.cells #[.string s,I 0,.bool false,.slice none 0 0,.bool false,.int .u32 0,.int .u32 0] 185))):=DN.o.alloc _;generalize w1.alloc (.cells #[.string s,I 0,.bool false,.slice none 0 0,.bool false,.int .u32 0,.int .u32 0] 185)=W1 at hI0 HW1 ⊢;clear hI DN;generalize w1.heap.size=b at hI0 aGg ⊢;have hbR:b≠w.heap.size:=by omega
 have LW:Hd (∀k,k<w.heap.size->Pt b (.slice none 0 0) k->No k):=fun k hk h=>by
  rcases h with h | h
  ·omega
  ·cases h
 refine((H1.o _ _ _ hI0.je).2).mono ?_;rintro e w2 ⟨rfl,h2,m2⟩;have hS1:=(H1.o _ _ _ hI0.je).1;have hI2:=hI0.go hbR h2 m2;clear H1 h2 m2 hI0;go_wp2_with fail;refine(H2.o _ _ _ hI2.je).mono ?_;rintro e w3 ⟨rfl,h3,m3⟩;have zk:=hI2.go hbR h3 m3;clear H2 h3 m3 hI2;go_wp2_with fail;have hS2:=(H3.o _ _ _ zk.je).1;refine((H3.o _ _ _ zk.je).2).mono ?_;rintro e w4 ⟨rfl,h4,m4⟩;have mV:=zk.go hbR h4 m4;clear H3 h4 m4 zk;by_cases c1:fr.isEmpty=true
 ·have Oz:Hd (r=none):=by
   have h:=HM.o;rw[c1,Bool.true_or,Bool.true_or,aP rfl]at h;exact(dY h).symm
  rw[c1]at hem;have z0:=mV.res.cell 0 rfl;have z1:=mV.res.cell 1 rfl;have z2:=mV.res.cell 2 rfl;have z3:=mV.res.cell 3 rfl;have z4:=mV.res.cell 4 rfl;have z5:=mV.res.cell 5 rfl;have fz0:=mV.res.free 0;have fz1:=mV.res.free 1;have fz2:=mV.res.free 2;have fz3:=mV.res.free 3;have fz4:=mV.res.free 4;have fz5:=mV.res.free 5;have xA:=qH (HW1.o.trans' mV.md LW.o);clear mV;go_wp2;exact bodyPost_ret (v:=.tuple #[jf,.bool false]) (by simp[results,results53,go_sem,jf,z0,z1,z2,z3,z4,z5]) rfl (iD.no Oz.o (xA.o.LU (dH _) _ _ _ _ _ _) rfl)
 ·have c1f:fr.isEmpty=false:=by simpa using c1
  rw[c1f]at hem;by_cases c2:4<fr.length
  ·have Oz:Hd (r=none):=by
    have h:=HM.o;rw[decide_eq_true c2,Bool.or_true,Bool.true_or,aP rfl]at h;exact(dY h).symm
   have c2i:(4:Int)<(S1.size:Int):=by have:=HL1.o;omega
   have z0:=mV.res.cell 0 rfl;have z1:=mV.res.cell 1 rfl;have z2:=mV.res.cell 2 rfl;have z3:=mV.res.cell 3 rfl;have z4:=mV.res.cell 4 rfl;have z5:=mV.res.cell 5 rfl;have fz0:=mV.res.free 0;have fz1:=mV.res.free 1;have fz2:=mV.res.free 2;have fz3:=mV.res.free 3;have fz4:=mV.res.free 4;have fz5:=mV.res.free 5;have xA:=qH (HW1.o.trans' mV.md LW.o);clear mV;go_wp2;exact bodyPost_ret (v:=.tuple #[jf,.bool false]) (by simp[results,results53,go_sem,jf,z0,z1,z2,z3,z4,z5]) rfl (iD.no Oz.o (xA.o.LU (dH _) _ _ _ _ _ _) rfl)
  ·have c2i:¬(4:Int)<(S1.size:Int):=by have:=HL1.o;omega
   by_cases c3:4<tt.length
   ·have Oz:Hd (r=none):=by
     have h:=HM.o;rw[decide_eq_true c3,Bool.or_true,aP rfl]at h;exact(dY h).symm
    have c3i:(4:Int)<(S2.size:Int):=by have:=HL2.o;omega
    have z0:=mV.res.cell 0 rfl;have z1:=mV.res.cell 1 rfl;have z2:=mV.res.cell 2 rfl;have z3:=mV.res.cell 3 rfl;have z4:=mV.res.cell 4 rfl;have z5:=mV.res.cell 5 rfl;have fz0:=mV.res.free 0;have fz1:=mV.res.free 1;have fz2:=mV.res.free 2;have fz3:=mV.res.free 3;have fz4:=mV.res.free 4;have fz5:=mV.res.free 5;have xA:=qH (HW1.o.trans' mV.md LW.o);clear mV;go_wp2;exact bodyPost_ret (v:=.tuple #[jf,.bool false]) (by simp[results,results53,go_sem,jf,z0,z1,z2,z3,z4,z5]) rfl (iD.no Oz.o (xA.o.LU (dH _) _ _ _ _ _ _) rfl)
   ·have c3i:¬(4:Int)<(S2.size:Int):=by have:=HL2.o;omega
    have hM:=HM.o;rw[c1f,lT c2,lT c3,aU (by simp)]at hM;have Qq:Hd (fr.length<=4):=qH <| by omega
    clear HM c1 c1f c2 c3
    cases hw:aI.bW fr ⟨true,0,0⟩ q3.ps with
    | none=>rw[hw]at hM;cases hM
    | some x=>
     obtain⟨m,ps⟩:=x;rw[hw]at hM
     dsimp only at hM
     have XO:=qH fun wx vp (hx:iC wx b s vp q3)=>HSW.o wx b vp q3 m ps hS1 hx hw
     have HM:Hd _:=hM;clear HSW hM hw;have HI4:=qH mV;clear mV;go_wp2_with fail;refine(XO.o _ _ HI4.o.je).mono ?_;rintro e w5 ⟨rfl,hm,v5,h5,f5,m5⟩;have hI5:=HI4.o.step hbR h5 f5 m5;clear XO HI4 h5 f5 m5;have hRL:=hI5.res.lt;have hbL:=hI5.je.lt;have hvL:v5.ownBlock≠some w5.heap.size:=fun e=>by have:=hI5.je.own e;omega
     have hWL:=hI5.md.size;have LZ:Hd (∀o,o=Obj.cells #[.bool m.e,.int .u32 m.f,.int .u32 m.l] 130->Sz s W1 b w.heap.size v5 { q3 with ps:=ps } (w5.alloc o)∧aG (w5.alloc o) w5.heap.size (BB m) 130):=fun o ho=>⟨hI5.alloc o,by subst ho;exact heap_alloc_new w5 _⟩
     clear hI5;go_wp2_with fail;have LZ:=LZ.o _ rfl;generalize w5.alloc (.cells #[.bool m.e,.int .u32 m.f,.int .u32 m.l] 130)=w6 at LZ ⊢;obtain⟨LZ,hL6⟩:=LZ;generalize w5.heap.size=L at hL6 hRL hbL hvL hWL ⊢;have aAc:b≠L:=by omega
     have aGh:w.heap.size≠L:=by omega
     have iY:=Om LZ.je 47 hs;have BD:=qH LZ;have HL6:=qH hL6;clear LZ hL6;cases c:aI.sees s.data.toList 47 { q3 with ps:=ps }
     case' false=>
      have hM:=HM.o;rw[c,aU (by simp)]at hM;rw[c,show iW s.data.toList 47 { q3 with ps:=ps }={ q3 with ps:=ps } by unfold iW;rw[c,aU (by simp)]]at iY;generalize hqf:({ q3 with ps:=ps }:PS)=qf at hM iY BD;have HF:=qH hM;clear hM HM c hqf;go_wp2_with fail;refine iY.mono ?_;rintro e w7 ⟨rfl,h7,m7⟩;clear iY;have hIF:=BD.o.go hbR h7 m7;have Ja:=gG HL6.o (fun e=>aAc e.symm) hvL m7;clear h7 m7 BD HL6;generalize v5=vf at hvL hIF ⊢;generalize w7=wf at hIF Ja ⊢;have hjo:=hm;generalize m=mf at hjo Ja HF ⊢
     case' true=>
      have hM:=HM.o;rw[c,aP rfl]at hM;rw[c,show iW s.data.toList 47 { q3 with ps:=ps }={ q3 with k:=q3.k+1,ps:=ps } by unfold iW;rw[aP c]]at iY;cases hwh:aAa s.data.toList { q3 with k:=q3.k+1,ps:=ps }
      case' none=>
       rw[hwh]at hM;cases hM
      case' some y=>
       obtain⟨y,q7⟩:=y;rw[hwh]at hM;have HF:Hd (Oy s.data.toList fr tt (bC q7.ps m y).1 { q7 with ps:=(bC q7.ps m y).2 }=some r):=hM;have HC:=qH fun wx (hx:iC wx b s v5 { q3 with k:=q3.k+1,ps:=ps })=>XK hx hs hwh
       clear hM HM hwh c;go_wp2_with fail;refine iY.mono ?_;rintro e w7 ⟨rfl,h7,m7⟩;clear iY;have AY:=qH (BD.o.go hbR h7 m7);have HL7:=qH (gG HL6.o (fun e=>aAc e.symm) hvL m7);clear h7 m7 BD HL6;go_wp2_with fail;refine(HC.o _ AY.o.je).mono ?_;rintro e w8 ⟨rfl,hy,v8,h8,f8,m8⟩;clear HC;have aB6:=f8.old hvL HL7.o.lt;have gU:=qH (AY.o.step hbR h8 f8 m8);have hL8:=gG HL7.o (fun e=>aAc e.symm) hvL m8;have aHx:=hL8.lt;have HL8:=qH hL8;have l0:=hL8.aS 0 rfl;have l1:=hL8.aS 1 rfl;have l2:=hL8.aS 2 rfl;have HJ:=qH fun o=>Zr (gU.o.alloc o).je hm hy
       clear h8 f8 m8 AY HL7 hL8;go_wp2_with fail;refine(HJ.o _).mono ?_;rintro e w9 ⟨rfl,h9,m9⟩;clear HJ l0 l1 l2;have AZ:=(gU.o.alloc _).go hbR h9 m9;have hL9:=gG (HL8.o.alloc _) (fun e=>aAc e.symm) aB6 m9;have hjo:=LK (ps:=q7.ps) hm hy;clear h9 m9 gU HL8;generalize hmf:(bC q7.ps m y).1=mf at HF hjo;generalize hqf:({ q7 with ps:=(bC q7.ps m y).2 }:PS)=qf at HF AZ;have aE5:Hd (∀b0 b1 b2,Sz s W1 b w.heap.size v8 qf (((w9.setCell (J L 0) b0).setCell (J L 1) b1).setCell (J L 2) b2)):=fun b0 b1 b2=>⟨AZ.je.vX aAc aB6 _ _ _,AZ.fr,AZ.md.vX hWL _ _ _,AZ.res.GN aGh _ _ _,AZ.nR⟩
       have aE6:Hd (∀b0 b1 b2,aG (((w9.setCell (J L 0) b0).setCell (J L 1) b1).setCell (J L 2) b2) L [b0,b1,b2] 130):=fun b0 b1 b2=>hL9.vX _ _ _
       have q0:=hL9.cell 0 rfl;have q1:=hL9.cell 1 rfl;have q2:=hL9.cell 2 rfl;have fq0:=hL9.free 0;have fq1:=hL9.free 1;have fq2:=hL9.free 2;clear AZ hL9;go_wp2_with fail;have hIF:=aE5.o (.bool mf.e) (.int .u32 mf.f) (.int .u32 mf.l);have Ja:aG _ L (BB mf) 130:=aE6.o (.bool mf.e) (.int .u32 mf.f) (.int .u32 mf.l);clear q0 q1 q2 fq0 fq1 fq2 aE5 aE6;generalize ((w9.setCell (J L 0) (.bool mf.e)).setCell (J L 1) (.int .u32 mf.f)).setCell (J L 2) (.int .u32 mf.l)=wf at hIF Ja ⊢;clear hmf hqf hvL;have hvL:=aB6;clear aB6;generalize v8=vf at hvL hIF ⊢
     all_goals
      have hks:=hIF.je.ks
      cases hbad:qf.bad with
      | true=>
       have Oz:Hd (r=none):=by
        have h:=HF.o;unfold Oy at h;rw[hbad,Bool.true_or,aP rfl]at h;exact(dY h).symm
       have hcb:=Zq hIF.je;rw[hbad]at hcb;have yO:=qH hIF;clear hIF hbad;go_wp2_with fail;refine hcb.mono ?_;rintro e wz ⟨rfl,rfl⟩;clear hcb;have hIF:=yO.o;clear yO;have z0:=hIF.res.cell 0 rfl;have z1:=hIF.res.cell 1 rfl;have z2:=hIF.res.cell 2 rfl;have z3:=hIF.res.cell 3 rfl;have z4:=hIF.res.cell 4 rfl;have z5:=hIF.res.cell 5 rfl;have fz0:=hIF.res.free 0;have fz1:=hIF.res.free 1;have fz2:=hIF.res.free 2;have fz3:=hIF.res.free 3;have fz4:=hIF.res.free 4;have fz5:=hIF.res.free 5;have xA:=qH (HW1.o.trans' hIF.md LW.o);clear hIF;go_wp2;exact bodyPost_ret (v:=.tuple #[jf,.bool false]) (by simp[results,results53,go_sem,jf,z0,z1,z2,z3,z4,z5]) rfl (iD.no Oz.o (xA.o.LU (dH _) _ _ _ _ _ _) rfl)
      | false=>
       have hcb:=Zq hIF.je;rw[hbad]at hcb;have hcl:=Vm hIF.je hs;by_cases hk:qf.k<s.size
       ·have Oz:Hd (r=none):=by
         have h:=HF.o;unfold Oy at h;rw[hbad,bK,decide_eq_true hk,Bool.or_true,aP rfl]at h;exact(dY h).symm
        have hki:(0:Int)<(s.size:Int)-(qf.k:Int):=by omega
        generalize (s.size:Int)-(qf.k:Int)=D at hcl hki;have yO:=qH hIF;clear hIF hbad hk hks;go_wp2_with fail;refine hcb.mono ?_;rintro e wz ⟨rfl,rfl⟩;clear hcb;go_wp2_with fail;refine hcl.mono ?_;rintro e wy ⟨rfl,n9,rfl⟩;clear hcl;have hIF:=yO.o.drewN n9;clear yO;generalize wz.drewN n9=wq at hIF ⊢;have z0:=hIF.res.cell 0 rfl;have z1:=hIF.res.cell 1 rfl;have z2:=hIF.res.cell 2 rfl;have z3:=hIF.res.cell 3 rfl;have z4:=hIF.res.cell 4 rfl;have z5:=hIF.res.cell 5 rfl;have fz0:=hIF.res.free 0;have fz1:=hIF.res.free 1;have fz2:=hIF.res.free 2;have fz3:=hIF.res.free 3;have fz4:=hIF.res.free 4;have fz5:=hIF.res.free 5;have xA:=qH (HW1.o.trans' hIF.md LW.o);clear hIF;go_wp2;exact bodyPost_ret (v:=.tuple #[jf,.bool false]) (by simp[results,results53,go_sem,jf,z0,z1,z2,z3,z4,z5]) rfl (iD.no Oz.o (xA.o.LU (dH _) _ _ _ _ _ _) rfl)
       ·have Oz:Hd (r=some ⟨fr,tt,qf.ps,mf⟩):=by
         have h:=HF.o;unfold Oy at h;rw[hbad,bK,lT hk,aU (by simp)]at h;exact(dY h).symm
        have hki:¬(0:Int)<(s.size:Int)-(qf.k:Int):=by omega
        generalize (s.size:Int)-(qf.k:Int)=D at hcl hki;have yO:=qH hIF;have HLF:=qH Ja;clear hIF Ja hbad hk hks;go_wp2_with fail;refine hcb.mono ?_;rintro e wz ⟨rfl,rfl⟩;clear hcb;go_wp2_with fail;refine hcl.mono ?_;rintro e wy ⟨rfl,n9,rfl⟩;clear hcl;have hIF:=yO.o.drewN n9;have Ja:=HLF.o.drewN n9;clear yO HLF;generalize wz.drewN n9=wq at hIF Ja ⊢;have yO:=qH hIF;have l0:=Ja.cell 0 rfl;have l1:=Ja.cell 1 rfl;have l2:=Ja.cell 2 rfl;have p3:=hIF.je.blk.cell 3 rfl;have p4:=hIF.je.blk.cell 4 rfl;have p5:=hIF.je.blk.cell 5 rfl;have p6:=hIF.je.blk.cell 6 rfl;have fp4:=hIF.je.blk.free 4;have fp5:=hIF.je.blk.free 5;have fp6:=hIF.je.blk.free 6;have z0:=hIF.res.cell 0 rfl;have z1:=hIF.res.cell 1 rfl;have z2:=hIF.res.cell 2 rfl;have z3:=hIF.res.cell 3 rfl;have z4:=hIF.res.cell 4 rfl;have z5:=hIF.res.cell 5 rfl;have fz0:=hIF.res.free 0;have fz1:=hIF.res.free 1;have fz2:=hIF.res.free 2;have fz3:=hIF.res.free 3;have fz4:=hIF.res.free 4;have fz5:=hIF.res.free 5;obtain⟨va,kP,hvf,-,-,-⟩:=hIF.je.row.any;generalize hqn:qf.ps.length=qn at hvf;have y5:=qH hvf;rw[hvf]at p3;clear hIF Ja hvf hqn;have hnb:w.heap.size≠b:=fun e=>hbR e.symm
        go_wp2;refine bodyPost_ret (v:=.tuple #[.agg #[.string S1,.string S2,.slice va qn kP,.bool mf.e,.int .u32 mf.f,.int .u32 mf.l],.bool true]) (by simp[results,results53,go_sem,z0,z1,z2,z3,z4,z5]) rfl (iD.yes (vp:=vf) Oz.o ?_ ?_ ?_)
        ·have hm:=HW1.o.trans' yO.o.md LW.o;exact(((hm.setCell (a:=J b 4) (fun h=>absurd h (by simp;omega)) _).setCell (a:=J b 5) (fun h=>absurd h (by simp;omega)) _).setCell (a:=J b 6) (fun h=>absurd h (by simp;omega)) _).LU (dH _) _ _ _ _ _ _
        ·rw[HRV.o,y5.o]
        ·refine⟨?_,yO.o.je.ok,hjo,fun g hg=>?_,Qq.o⟩
         ·have h1:=yO.o.je.ne;have h2:=yO.o.nR;exact((((((((yO.o.je.row.other (a:=J b 4) h1 _).other (a:=J b 5) h1 _).other (a:=J b 6) h1 _).other (a:=J w.heap.size 0) h2 _).other (a:=J w.heap.size 1) h2 _).other (a:=J w.heap.size 2) h2 _).other (a:=J w.heap.size 3) h2 _).other (a:=J w.heap.size 4) h2 _).other (a:=J w.heap.size 5) h2 _
         ·rcases yO.o.fr g hg with h | h
          ·cases h
          ·exact Nat.le_trans HW1.o.size h
end
section
open Go.RowKit
attribute [local go_sem ↓] Go.wp_at_zero Go.wp_at_succ
variable {w w':World} {v v':Value} {base:Nat} {r:aI.Rule} {fB:List (aI.Rule × Value)}
theorem PD(l:List UInt8)(k:Nat)(h:l[k]?=some 10):eP (l.drop k)=0:=by
 obtain⟨hk,h2⟩:=bU h;rw[kJ hk,h2];rfl
theorem L6(l:List UInt8)(k:Nat)(c:UInt8)(h:l[k]?=some c)(hc:c≠10):eP (l.drop k)=eP (l.drop (k+1))+1:=by
 obtain⟨hk,h2⟩:=bU h;rw[kJ hk,h2,eP,aU hc]
theorem PE(l:List UInt8)(k:Nat)(h:l.length<=k):eP (l.drop k)=0:=by rw[drop_of_length_le h];rfl
theorem PI(s:ByteArray)(k:Nat)(w:World)(hs:s.size<=1048576)(hk:k<=s.size):J1 52 #[.string s,I k] w fun e w'=>e=.returned (I ((k+eP (s.data.toList.drop k):Nat):Int))∧w'=w:=by
 obtain⟨l,hl⟩:=eX s.data.toList;have zf:Hd (s.size=l.length):=qH <| by rw[hl,bK]
 have HG:Hd (∀(i:Nat) (h:i<s.size),l[i]?=some s[i]):=fun i h=>by rw[hl];exact Lib.data_getElem? s i h
 rw[<-hl];clear hl;generalize hE:k+eP (l.drop k)=E;go_enter func52,ntmps52;go_wp2_with fail;go_loopg [1] (s.size-k) (fun g ii wr=>∃j:Nat,j<=s.size∧g=s.size-j∧ii=I j∧j+eP (l.drop j)=E∧wr=w)
 case atStart=>exact⟨k,hk,rfl,rfl,hE,rfl⟩
 case round=>
  obtain⟨j,hj,hg,rfl,hE2,rfl⟩:=hrel;by_cases hlt:j<s.size
  ·have hx:=HG.o j hlt;have hi:(j:Int)<s.size:=by omega
   have hi0:(0:Int)<=(j:Int):=by omega
   have hd:=decide_eq_true hlt;by_cases hc:s[j]=10
   ·have HE:Hd (j=E):=qH <| by
     rw[hc]at hx;rw[<-hE2,PD l j hx];rfl
    have hne:(((s[j]).toNat:Int)==10)=true:=by rw[hc];rfl
    clear hx hE2 hc;go_wp2;go_ret;exact⟨bQ (by rw[HE.o]),rfl⟩
   ·have HE:Hd (j+1+eP (l.drop (j+1))=E):=qH <| by
     rw[<-hE2,L6 l j _ hx hc];omega
    have hne:(((s[j]).toNat:Int)==10)=false:=by
     rw[beq_eq_false_iff_ne];intro h;exact hc (UInt8.toNat_inj.1 (by show (s[j]).toNat=10;omega))
    clear hx hE2 hc;go_wp2;go_roundg (s.size-(j+1))
    case measure=>omega
    case rel=>exact⟨j+1,by omega,rfl,by go_num,HE.o,rfl⟩
  ·have HE:Hd (j=E):=qH <| by
    rw[<-hE2,PE l j (by have:=zf.o;omega)];rfl
   have hi:¬(j:Int)<s.size:=by omega
   have hd:=lT hlt;clear hE2;go_wp2;go_ret;exact⟨bQ (by rw[HE.o]),rfl⟩
def RuE:Enc (aI.Rule × Value):=⟨134,6,fun r=>[.string ⟨r.1.fr.toArray⟩,.string ⟨r.1.tt.toArray⟩,r.2,.bool r.1.wh.e,.int .u32 r.1.wh.f,.int .u32 r.1.wh.l],fun _=>rfl⟩
theorem aJM:(prog.info? 134).map (fun i=>(i.zero,i.size,i.bytes))=some (some (.agg #[.string ⟨#[]⟩,.string ⟨#[]⟩,.slice none 0 0,.bool false,.int .u32 0,.int .u32 0]),6,72):=by kernel_rfl
theorem Row.apart{α β:Type}{E:Enc α}{E':Enc β}{xs:List α}{ys:List β}(h:Row E w v xs)(h':Row E' w v' ys)(ht:E.T≠E'.T){g:Nat}(hg:v.ownBlock=some g):v'.ownBlock≠some g:=by
 intro hg';rcases h.2 with ⟨rfl,_⟩ | ⟨g1,cap,cur,rfl,_,hh,_⟩
 ·cases hg
 ·rcases h'.2 with ⟨rfl,_⟩ | ⟨g2,cap',cur',rfl,_,hh',_⟩
  ·cases hg'
  ·cases hg;cases hg';rw[hh]at hh';injection hh' with e;injection e with _ e2;exact ht e2
structure nD(w:World)(base:Nat)(v:Value)(fB:List (aI.Rule × Value)):Prop where
 row:Row RuE w v fB
 all:∀r∈fB,DR w base r.1 r.2
 new:∀g,v.ownBlock=some g->base<=g
theorem DR.mod{S:Nat->Prop}(h:DR w base r v)(hm:Mod S w w')(hn:∀g,v.ownBlock=some g->¬S g):DR w' base r v:=⟨h.row.mod hm hn,h.ps,h.wh,h.new,h.fr⟩
theorem nD.nil(w:World)(base:Nat):nD w base (.slice none 0 0) []:=⟨Row.nil _ _,(fun r hr=>by cases hr),(fun g hg=>by cases hg)⟩
theorem nD.no(h:nD w base v fB)(hm:Mod No w w'):nD w' base v fB:=⟨h.row.no hm,fun r hr=>(h.all r hr).mod hm fun _ _ x=>x,h.new⟩
theorem nD.snoc{vr:Value}(h:nD w base v fB)(hr:DR w base r vr)(hg:w.grownBy w' v.ownBlock)(hrow:Row RuE w' v' (fB++[(r,vr)]))(hnew:∀g,v'.ownBlock=some g->base<=g):nD w' base v' (fB++[(r,vr)]):=by
 have key:∀r v1,DR w base r v1->DR w' base r v1:=fun r v1 h1=>by
  refine⟨h1.row.grown hg ?_,h1.ps,h1.wh,h1.new,h1.fr⟩
  cases e:v1.ownBlock with
  | none=>exact .inl rfl
  | some g=>exact .inr fun e2=>h.row.apart h1.row (by decide) e2.symm e
 exact⟨hrow,fun x hx=>by
  rcases mem_append.1 hx with h2 | h2
  ·exact key _ _ (h.all x h2)
  ·rw[mem_singleton.1 h2];exact key _ _ hr,hnew⟩
def zl(rs:List aI.Rule)(line er:Nat)(w:World)(e:Ending)(w':World):Prop:=Mod No w w'∧∃v fB,e=.returned (.tuple #[v,I line,I er])∧fB.map Prod.fst=rs∧nD w' w.heap.size v fB∧rs.length<=4
theorem zn(s:ByteArray)(k e:Nat):(s.extract k (k+e)).data.toList=(s.data.toList.drop k).take e:=by
 rw[extract_data,show k+e-k=e by omega]
theorem GU:∀l:List UInt8,eP l<=l.length
 | []=>by simp[eP]
 | c::l=>by
  rw[eP];split
  ·simp
  ·have:=GU l;simp;omega
theorem TA(s:ByteArray)(w:World)(hs:s.size<=1048576){F:Nat}{rs:List aI.Rule}{line er:Nat}(hM:aI.cZ F s.data.toList 0 []=some (rs,line,er)):J1 31 #[.string s] w fun e w'=>zl rs line er w e w':=by
 obtain⟨i0,af,hz0,hz1,hz2⟩:=info_parts aJM;obtain⟨l,hl⟩:=eX s.data.toList;rw[<-hl]at hM;have zf:Hd (s.size=l.length):=qH <| by rw[hl,bK]
 have XL:Hd (∀k wx,k<=s.size->J1 52 #[.string s,I k] wx fun e w'=>e=.returned (I ((k+eP (l.drop k):Nat):Int))∧w'=wx):=fun k wx hk=>by
  rw[hl];exact PI s k wx hs hk
 have HRR:Hd (∀k e wx r,k+e<=s.size->uX ((l.drop k).take e)=some r->J1 53 #[.string (s.extract k (k+e))] wx fun e w'=>iD r wx e w'):=fun k e wx r hk hr=>by
  refine LV _ wx ?_ (by rw[zn,<-hl];exact hr);rw[<-bK,zn,length_take,length_drop];rw[bK];omega
 have HM:=qH hM;clear hM hl;go_enter func31,ntmps31;go_wp2_with fail;go_loopg [5,6,7] F (fun f v5 v6 v7 wr=>∃(k n:Nat) (fB:List (aI.Rule × Value)),v6=I n∧v7=I k∧k<=s.size+1∧(k<=s.size)∧n<=k∧fB.length=min n 4∧nD wr w.heap.size v5 fB∧Mod No w wr∧aI.cZ f (l.drop k) n (fB.map Prod.fst)=some (rs,line,er))
 case atStart=>exact⟨0,0,[],rfl,rfl,by omega,by omega,by omega,rfl,nD.nil _ _,Mod.refl _ _,HM.o⟩
 case round=>
  obtain⟨k,n,fB,rfl,rfl,-,hk,hn,hpl,xZ,hm,hrd⟩:=hrel
  match gk,hrd with
  | 0,hrd=>rw[aI.cZ]at hrd;cases hrd
  | f+1,hrd=>
   rw[aI.cZ]at hrd;have lF:=qH hm;have HRU:=qH xZ;by_cases hlt:k<s.size
   ·have yZ:k<l.length:=by have:=zf.o;omega
    have hem:(l.drop k).isEmpty=false:=by rw[kJ yZ];rfl
    rw[hem,aU (by simp)]at hrd
    dsimp only at hrd
    have hle:k+eP (l.drop k)<=s.size:=by
     have:=GU (l.drop k);rw[length_drop]at this;have:=zf.o;omega
    have hcall:=XL.o k wr hk;have hll:(l.drop k).length=s.size-k:=by rw[length_drop,zf.o]
    rw[hll,drop_drop]at hrd;generalize hee:eP (l.drop k)=e at hrd hle hcall;cases hr:uX ((l.drop k).take e)with
    | none=>rw[hr]at hrd;cases hrd
    | some r=>
     rw[hr]at hrd;have HR:=qH fun wx=>HRR.o k e wx r hle hr
     clear hr hee hem yZ;obtain⟨E,hE⟩:=eX (k+e);rw[<-hE]at hcall HR hle;have HE:=qH hE;have hki:(k:Int)<s.size:=by omega
     have aHy:(k:Int)<=E:=by omega
     have aHz:(E:Int)<=s.size:=by omega
     have aHA:(0:Int)<=(k:Int):=by omega
     have aHB:(0:Int)<=(E:Int):=by omega
     clear hE
     cases r with
     | none=>
      simp only[Option.some.injEq,Prod.mk.injEq]at hrd;obtain⟨rfl,rfl,rfl⟩:=hrd;clear xZ hm;go_wp2_with fail;refine hcall.mono ?_;rintro e1 w1 ⟨rfl,rfl⟩;clear hcall;go_wp2_with fail;refine(HR.o _).mono ?_;rintro e2 w2 ⟨m2,rfl⟩;clear HR;unfold jf;go_wp2;exact bodyPost_ret (v:=.tuple #[.slice none 0 0,I ((n:Int)+1),I 1]) (by simp[results,results31,go_sem]) rfl ⟨(lF.o.no m2).alloc _,_,[],rfl,rfl,nD.nil _ _,by simp⟩
     | some ru=>
      dsimp only at hrd
      by_cases hend:E=s.size
      ·rw[aP (by have:=HE.o;omega)]at hrd;simp only[Option.some.injEq,Prod.mk.injEq]at hrd;obtain⟨rfl,rfl,rfl⟩:=hrd;have aE7:((E:Int)==(s.size:Int))=true:=by rw[hend];simp
       clear xZ hm hend;go_wp2_with fail;refine hcall.mono ?_;rintro e1 w1 ⟨rfl,rfl⟩;clear hcall;go_wp2_with fail;refine(HR.o _).mono ?_;rintro e2 w2 ⟨m2,vp,rfl,hok⟩;clear HR;obtain⟨va,kP,rfl,-,-,-⟩:=hok.row.any;unfold J9;clear hok;go_wp2;exact bodyPost_ret (v:=.tuple #[.slice none 0 0,I ((n:Int)+1),I 1]) (by simp[results,results31,go_sem]) rfl ⟨(lF.o.no m2).alloc _,_,[],rfl,rfl,nD.nil _ _,by simp⟩
      ·rw[aU (by have:=HE.o;omega)]at hrd;have aE7:((E:Int)==(s.size:Int))=false:=by rw[beq_eq_false_iff_ne];omega
       have hlt2:E<s.size:=by omega
       rw[show k+(e+1)=E+1 by have:=HE.o;omega]at hrd;by_cases hn4:n+1<=4
       ·rw[aP hn4]at hrd;have aDG:(n:Int)+1<=4:=by omega
        have hpn:fB.length=n:=by omega
        have HRD:=qH hrd;clear xZ hm hend hrd;go_wp2_with fail;refine hcall.mono ?_;rintro e1 w1 ⟨rfl,rfl⟩;clear hcall;go_wp2_with fail;refine(HR.o _).mono ?_;rintro e2 w2 ⟨m2,vp,rfl,hok⟩;clear HR;have J7:=qH hok;obtain⟨va,kP,rfl,-,-,-⟩:=hok.row.any;generalize hvn:ru.ps.length=vn at *;have aB7:=qH (HRU.o.no m2);have HMM:=qH (lF.o.no m2);have aGi:Hd (DR w2 w.heap.size ru (.slice va vn kP)):=⟨J7.o.row,J7.o.ps,J7.o.wh,fun g hg=>Nat.le_trans lF.o.size (J7.o.new g hg),J7.o.fr⟩;obtain⟨ua,aAd,hu5,-,-,-⟩:=aB7.o.row.any;rw[hpn]at hu5;subst hu5;have hown:w2.ownsRow 0 134 6 (.slice ua n aAd) n (fB.flatMap RuE.f):=by have:=aB7.o.row;unfold Row at this;rw[hpn]at this;exact this
        unfold J9;have HF:Hd (RuE.f (ru,.slice va vn kP)=[.string ⟨ru.fr.toArray⟩,.string ⟨ru.tt.toArray⟩,.slice va vn kP,.bool ru.wh.e,.int .u32 ru.wh.f,.int .u32 ru.wh.l]):=rfl;clear hok hvn;go_wp2_with (at_builtin;refine wpList_append_lies _ rfl _ _ 77 rfl 0 134 i0 _ 6 72 underlying77 af hz0 hz1 hz2 rfl (by omega) (.slice ua n aAd) n (fB.flatMap RuE.f) rfl ((hown.alloc _).alloc _) ⟨w2.heap.size+1,0,none⟩ 1 1 [.string ⟨ru.fr.toArray⟩,.string ⟨ru.tt.toArray⟩,.slice va vn kP,.bool ru.wh.e,.int .u32 ru.wh.f,.int .u32 ru.wh.l] rfl rfl ?c1 ?c2 (by omega) (by unfold maxLen;omega) (by omega) (by simp) (w2.heap.size+2) (by simp) ?_)
        case c1=>exact World.news_of_block (cs:=#[.string ⟨ru.fr.toArray⟩,.string ⟨ru.tt.toArray⟩,.slice va vn kP,.bool ru.wh.e,.int .u32 ru.wh.f,.int .u32 ru.wh.l]) (t:=134) (fr:=(0,0)) (fE w2 _ _)
        case c2=>intro u hu;simp at hu;rcases hu with rfl | rfl | rfl | rfl | rfl | rfl <;> rfl
        intro gg cap2 w3 hown3 hgrow hat fJ;have hma:Mod No w2 ((w2.alloc (.cells #[.string ⟨ru.fr.toArray⟩,.string ⟨ru.tt.toArray⟩,.slice va vn kP,.bool ru.wh.e,.int .u32 ru.wh.f,.int .u32 ru.wh.l] 134)).alloc (.cells #[.string ⟨ru.fr.toArray⟩,.string ⟨ru.tt.toArray⟩,.slice va vn kP,.bool ru.wh.e,.int .u32 ru.wh.f,.int .u32 ru.wh.l] 134)):=((Mod.refl _ _).alloc _).alloc _;have hlow:=aB7.o.new;have hsz2:=HMM.o.size;have aGj:Hd (nD w3 w.heap.size (Jn gg (n+1) cap2) (fB++[(ru,.slice va vn kP)])):=by
         refine(aB7.o.no hma).snoc (aGi.o.mod hma fun _ _ x=>x) hgrow (Row.snoc ?_) (fun g hg=>?_)
         ·rw[HF.o,hpn];exact hown3
         ·cases hg;rcases hat with h | h
          ·exact hlow gg h
          ·show w.heap.size<=gg;omega
        have Aa:=qH (((HMM.o.no hma).grown hgrow fun g hg hlt=>by have:=hlow g hg;omega));clear hown3 hgrow hat fJ hown hma;go_wp2;go_roundg f
        case measure=>omega
        case rel=>exact⟨E+1,n+1,fB++[(ru,.slice va vn kP)],by go_num,by go_num,by omega,by omega,by have:=HE.o;omega,by simp;omega,aGj.o,Aa.o,by rw[map_append];exact HRD.o⟩
       ·rw[aU hn4]at hrd;have aDG:¬(n:Int)+1<=4:=by omega
        have HRD:=qH hrd;clear xZ hm hend hrd;go_wp2_with fail;refine hcall.mono ?_;rintro e1 w1 ⟨rfl,rfl⟩;clear hcall;go_wp2_with fail;refine(HR.o _).mono ?_;rintro e2 w2 ⟨m2,vp,rfl,hok⟩;clear HR;obtain⟨va,kP,rfl,-,-,-⟩:=hok.row.any;unfold J9;clear hok;go_wp2;go_roundg f
        case measure=>omega
        case rel=>exact⟨E+1,n+1,fB,by go_num,by go_num,by omega,by omega,by have:=HE.o;omega,by omega,(HRU.o.no m2).no ((Mod.refl _ _).alloc _),(lF.o.no m2).alloc _,HRD.o⟩
   ·have hem:(l.drop k).isEmpty=true:=by rw[drop_of_length_le (by have:=zf.o;omega)];rfl
    rw[hem,aP rfl]at hrd;have hi:¬(k:Int)<s.size:=by omega
    clear xZ hm;by_cases hn1:n<1
    ·rw[aP (Or.inl hn1)]at hrd;simp only[Option.some.injEq,Prod.mk.injEq]at hrd;obtain⟨rfl,rfl,rfl⟩:=hrd;have aGk:(n:Int)<1:=by omega
     go_wp2;exact bodyPost_ret (v:=.tuple #[.slice none 0 0,I 0,I 2]) (by simp[results,results31,go_sem]) rfl ⟨lF.o,_,[],rfl,rfl,nD.nil _ _,by simp⟩
    ·have aGk:¬(n:Int)<1:=by omega
     by_cases hn4:4<n
     ·rw[aP (Or.inr hn4)]at hrd;simp only[Option.some.injEq,Prod.mk.injEq]at hrd;obtain⟨rfl,rfl,rfl⟩:=hrd;have aDG:(4:Int)<(n:Int):=by omega
      go_wp2;exact bodyPost_ret (v:=.tuple #[.slice none 0 0,I 0,I 2]) (by simp[results,results31,go_sem]) rfl ⟨lF.o,_,[],rfl,rfl,nD.nil _ _,by simp⟩
     ·have aDG:¬(4:Int)<(n:Int):=by omega
      rw[aU (by omega)]at hrd;simp only[Option.some.injEq,Prod.mk.injEq]at hrd;obtain⟨rfl,rfl,rfl⟩:=hrd;go_wp2;exact bodyPost_ret (v:=.tuple #[u5,I 0,I 0]) (by simp[results,results31,go_sem]) rfl ⟨lF.o,_,fB,rfl,rfl,HRU.o,by rw[length_map];omega⟩
end
end Go.Proofs.YtoebidlghdidoaaGreatDoor
