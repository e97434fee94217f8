import Derived.Test.YtoebidlghdidoaaGreatDoorAY
set_option maxHeartbeats 1600000
set_option maxRecDepth 100000
namespace Go.Proofs.YtoebidlghdidoaaGreatDoor
open M3 M2 Tryz List Go.RowKit
attribute [local go_sem ↓] Go.wp_at_zero Go.wp_at_succ
variable {on:List Int} {found f2 found':List fH} {last last':List Nat} {h0 h1:List UInt8} {R r:List fH × List Nat} {i n:Nat}
theorem Xo{pair:Nat}{fr:Int}{l:Nat}(h:uZ on found last pair h0 h1 fr l=some R):∃o la,on[pair]?=some o∧last[pair]?=some la∧((o<0∧R=(found,last))∨(¬o<0∧found.length<=2199023000000∧la<=100000000000000∧∃b,M2.seen found h0 h1 10000000000000 ((la:Int)-1)=some b∧R=if b then (found,last) else (found++[⟨pair,h0,h1,fr,l,(la:Int)-1⟩],last.set pair (found.length+1)))):=by
 unfold uZ at h;split at h
 ·rename_i o la ho hla;refine⟨o,la,ho,hla,?_⟩;split at h
  ·rename_i hc;exact Or.inl ⟨hc,(dY h).symm⟩
  ·rename_i hc;split at h
   ·rename_i hb;split at h
    ·cases h
    ·rename_i hs;exact Or.inr ⟨hc,hb.1,hb.2,true,hs,(dY h).symm⟩
    ·rename_i hs;exact Or.inr ⟨hc,hb.1,hb.2,false,hs,(dY h).symm⟩
   ·cases h
 ·cases h
theorem Xp{f:Nat}{i:Int}{b:Bool}(h:M2.seen found h0 h1 (f+1) i=some b):(i<0∧b=false)∨(∃k x,i=((k:Nat):Int)∧found[k]?=some x∧(((decide (x.h0=h0)&&decide (x.h1=h1))=true∧b=true)∨((decide (x.h0=h0)&&decide (x.h1=h1))=false∧M2.seen found h0 h1 f x.before=some b))):=by
 rw[M2.seen]at h;split at h
 ·rename_i hc;exact Or.inl ⟨hc,(dY h).symm⟩
 ·rename_i hc;split at h
  ·cases h
  ·rename_i x hx;refine Or.inr ⟨i.toNat,x,by omega,hx,?_⟩;split at h
   ·rename_i he;exact Or.inl ⟨he,(dY h).symm⟩
   ·rename_i he;exact Or.inr ⟨by simpa using he,h⟩
def FnE:Enc fH:=⟨220,6,fun x=>[I x.pair,.string ⟨x.h0.toArray⟩,.string ⟨x.h1.toArray⟩,I x.fr,I x.l,I x.before],fun _=>rfl⟩
theorem aJU:(prog.info? 220).map (fun i=>(i.zero,i.size,i.bytes))=some (some (.agg #[I 0,.string ⟨#[]⟩,.string ⟨#[]⟩,I 0,I 0,I 0]),6,64):=by kernel_rfl
theorem aFK(a b c d:List UInt8)(w:World):(Op.equalIn 10000 218 (.agg #[.string ⟨a.toArray⟩,.string ⟨b.toArray⟩]) (.agg #[.string ⟨c.toArray⟩,.string ⟨d.toArray⟩])).run prog w=.ok (decide (a=c)&&decide (b=d)) w:=by
 obtain⟨i9,hi9,-⟩:=info_parts aIG;rw[run_equalIn_array w 9999 _ _ underlying218 hi9,aIM];have:=qP prog 9998 9 str aJm (Jk 9998) [a,b] [c,d] w (range 2) (fun i hi=>by have:=mem_range.1 hi;simp;omega);refine this.trans ?_;congr 1;rw[Bool.eq_iff_iff];simp[show range 2=[0,1] from rfl]
structure SG(v:M2.View)(base S:Nat)(ka kw kh kd vp c5 vn vs vf vo fo la:Value)(R:M3.GG)(found:List fH)(last:List Nat)(w:World):Prop where
 blk:aG w S [ka,kw,kh,kd,vp,c5,vn,vs,vf,vo,fo,la] 172
 vw:VP v base ka kw kh kd w
 pr:Row PaE w vp R.g.pairs
 sp:Row SpE w vs R.g.steps
 fi:Row dh w vf R.first
 on:Row D5 w vo R.on
 MH:Row FnE w fo found
 rla:Row dh w la last
 nf:∀q,la.ownBlock=some q->vf.ownBlock≠some q
 no':∀q,la.ownBlock=some q->vo.ownBlock≠some q
section
variable {v:M2.View} {base S:Nat} {ka kw kh kd vp c5 vn vs vf vo fo la:Value} {R:M3.GG} {found:List fH} {last:List Nat} {w w':World}
theorem SG.no(h:SG v base S ka kw kh kd vp c5 vn vs vf vo fo la R found last w)(hm:Mod No w w'):SG v base S ka kw kh kd vp c5 vn vs vf vo fo la R found last w':=⟨h.blk.mod hm (fun x=>x),h.vw.no hm,h.pr.no hm,h.sp.no hm,h.fi.no hm,h.on.no hm,h.MH.no hm,h.rla.no hm,h.nf,h.no'⟩
theorem SG.more{w7:World}{v2:Value}(h:SG v base S ka kw kh kd vp c5 vn vs vf vo fo la R found last w)(hg:w.grownBy w7 fo.ownBlock)(hrow:Row FnE w7 v2 f2):SG v base S ka kw kh kd vp c5 vn vs vf vo v2 la R f2 last (w7.setCell (J S 10) v2):=by
 have hm:=rX hg;have hs:Safe (fun k=>fo.ownBlock=some k) w 220 220:=Safe.row h.MH;have hB:=h.blk.safe hm hs (by decide) (by decide);have hm2:Mod (fun k=>k=S) w7 (w7.setCell (J S 10) v2):=(Mod.refl (fun k=>k=S) _).setCell (a:=J S 10) (fun _=>rfl) _;have hs2:=Safe.one hB;exact⟨hB.set 10 v2,(h.vw.far hm hs (by decide) (by decide)).far hm2 hs2 (by decide) (by decide),(h.pr.safe hm hs (by decide) (by decide)).safe hm2 hs2 (by decide) (by decide),(h.sp.safe hm hs (by decide) (by decide)).safe hm2 hs2 (by decide) (by decide),(h.fi.safe hm hs (by decide) (by decide)).safe hm2 hs2 (by decide) (by decide),(h.on.safe hm hs (by decide) (by decide)).safe hm2 hs2 (by decide) (by decide),hrow.safe hm2 hs2 (by decide) (by decide),(h.rla.safe hm hs (by decide) (by decide)).safe hm2 hs2 (by decide) (by decide),h.nf,h.no'⟩
theorem SG.put{gl cap P u:Nat}{x:Nat}(h:SG v base S ka kw kh kd vp c5 vn vs vf vo fo (Jn gl n cap) R found last w)(hP:last[P]?=some u):SG v base S ka kw kh kd vp c5 vn vs vf vo fo (Jn gl n cap) R found (last.set P x) (w.setCell (J gl P) (I x)):=by
 have hm:Mod (fun q=>q=gl) w (w.setCell (J gl P) (I x)):=(Mod.refl (fun q=>q=gl) _).setCell (a:=J gl P) (fun _=>rfl) _;have hs:Safe (fun q=>q=gl) w 3 3:=fun g c T hg h1 h2 e=>by
  have:=Safe.row h.rla g c T hg h1 h2;exact this (by rw[e];rfl)
 exact⟨h.blk.safe hm hs (by decide) (by decide),h.vw.far hm hs (by decide) (by decide),h.pr.safe hm hs (by decide) (by decide),h.sp.safe hm hs (by decide) (by decide),h.fi.mod hm (fun q hq e=>h.nf gl rfl (by rw[hq,e])),h.on.mod hm (fun q hq e=>h.no' gl rfl (by rw[hq,e])),h.MH.safe hm hs (by decide) (by decide),dh.put h.rla x hP,h.nf,h.no'⟩
theorem SG.side{Q:Nat}{cs:List Value}(h:SG v base S ka kw kh kd vp c5 vn vs vf vo fo la R found last w)(hQ:aG w Q cs 220)(hm:Mod (fun k=>k=Q) w w')(hf:fo.ownBlock≠some Q):SG v base S ka kw kh kd vp c5 vn vs vf vo fo la R found last w':=by
 have hs:=Safe.one hQ;exact⟨h.blk.safe hm hs (by decide) (by decide),h.vw.far hm hs (by decide) (by decide),h.pr.safe hm hs (by decide) (by decide),h.sp.safe hm hs (by decide) (by decide),h.fi.safe hm hs (by decide) (by decide),h.on.safe hm hs (by decide) (by decide),h.MH.mod hm (fun q hq e=>hf (by rw[hq,e])),h.rla.safe hm hs (by decide) (by decide),h.nf,h.no'⟩
end
def Ad(S:Nat)(fo la:Value):Nat->Prop:=fun k=>k=S∨fo.ownBlock=some k∨la.ownBlock=some k
theorem QV(w:World)(v:M2.View)(base S:Nat)(ka kw kh kd vp c5 vn vs vf vo fo la:Value)(R:M3.GG)(found:List fH)(last:List Nat)(h:SG v base S ka kw kh kd vp c5 vn vs vf vo fo la R found last w)(pair:Nat)(h0 h1:List UInt8)(fr:Int)(l:Nat)(hM:uZ R.on found last pair h0 h1 fr l=some (found',last')):J1 100 #[Jx S 0,.agg #[I pair,.string ⟨h0.toArray⟩,.string ⟨h1.toArray⟩,I fr,I l,I 0]] w fun e w'=>e=.returned (.tuple #[])∧∃Qu,SG v base S ka kw kh kd vp c5 vn vs vf vo Qu la R found' last' w'∧aN w fo Qu∧Mod (Ad S fo la) w w':=by
 obtain⟨o,u,ho,hu,hcase⟩:=Xo hM;have hpo:=(bU ho).1;have hpl:=(bU hu).1;obtain⟨go',oc,Xl,-,-⟩:=h.on.form (by omega);obtain⟨gl,lc,evl,-,-⟩:=h.rla.form (by omega);obtain⟨NO,hNO⟩:=eX R.on.length;obtain⟨NL,hNL⟩:=eX last.length;rw[<-hNO]at Xl hpo;rw[<-hNL]at evl hpl;subst evl;have HI:=qH h;have HN:=qH (a3 Xl hNO hNL);have HU:=qH (a2 ho hu);obtain⟨SA,Yd⟩:=eX (⟨h0.toArray⟩:ByteArray);obtain⟨SB,hSB⟩:=eX (⟨h1.toArray⟩:ByteArray);have Gp:=qH (a2 Yd hSB);rw[<-Yd,<-hSB];have aId:(pair:Int)<NO:=by omega
 have aIe:(pair:Int)<NL:=by omega
 clear Yd hSB hM hNO hNL Xl ho hu h;go_enter func100,ntmps100;go_wp2_with fail;have HW1:Hd (SG v base S ka kw kh kd vp c5 vn vs vf vo fo (Jn gl NL lc) R found last (w.alloc (.cells #[I pair,.string SA,.string SB,I fr,I l,I 0] 220))∧aG (w.alloc (.cells #[I pair,.string SA,.string SB,I fr,I l,I 0] 220)) w.heap.size [I pair,.string SA,.string SB,I fr,I l,I 0] 220∧Mod No w (w.alloc (.cells #[I pair,.string SA,.string SB,I fr,I l,I 0] 220))):=⟨HI.o.no ((Mod.refl _ _).alloc _),heap_alloc_new w _,(Mod.refl _ _).alloc _⟩;generalize w.alloc (.cells #[I pair,.string SA,.string SB,I fr,I l,I 0] 220)=W1 at HW1 ⊢;have HBX:Hd (∃BX,BX=w.heap.size):=⟨_,rfl⟩;obtain⟨BX,hBX⟩:=HBX.o;have HBX:=qH hBX;rw[<-hBX]at HW1 ⊢;clear hBX;have b0:=HW1.o.2.1.cell 0 rfl;have k9:=HW1.o.1.blk.cell 9 rfl;rw[HN.o.1]at k9;have c9:W1.cell? (J go' pair)=some (I o):=by have:=HW1.o.1.on;rw[HN.o.1]at this;exact D5.cell this HU.o.1
 rcases hcase with ⟨ho0,hR⟩ | ⟨ho0,hfl,hul,b,hsn,hR⟩
 ·cases hR;go_quiet (fail);go_wp2;refine bodyPost_ret (results_none rfl _ _ _) rfl ?_;exact⟨rfl,fo,HW1.o.1.no ((Mod.refl _ _).drewN _),aN.refl _ _,(HW1.o.2.2.no ((Mod.refl _ _).drewN _)).more (fun _ _ e=>e.elim)⟩
 ·go_quiet (fail);have HW2:Hd (SG v base S ka kw kh kd vp c5 vn vs vf vo fo (Jn gl NL lc) R found last (W1.drewN nq)∧aG (W1.drewN nq) BX [I pair,.string SA,.string SB,I fr,I l,I 0] 220∧Mod No w (W1.drewN nq)):=⟨HW1.o.1.no ((Mod.refl _ _).drewN _),HW1.o.2.1.drewN _,HW1.o.2.2.no ((Mod.refl _ _).drewN _)⟩;generalize W1.drewN nq=W2 at HW2 ⊢;clear HW1 b0 k9 c9;have b0:=HW2.o.2.1.cell 0 rfl;have b5:=HW2.o.2.1.cell 5 rfl;have f5:=HW2.o.2.1.free 5;have k11:=HW2.o.1.blk.cell 11 rfl;have cu:=dh.cell HW2.o.1.rla HU.o.2;go_wp2_with fail
  go_region
  have HW3:Hd (SG v base S ka kw kh kd vp c5 vn vs vf vo fo (Jn gl NL lc) R found last (W2.setCell (J BX 5) (I ((u:Int)-1))).drew∧aG (W2.setCell (J BX 5) (I ((u:Int)-1))).drew BX [I pair,.string SA,.string SB,I fr,I l,I ((u:Int)-1)] 220∧Mod No w (W2.setCell (J BX 5) (I ((u:Int)-1))).drew):=by
   refine⟨?_,(HW2.o.2.1.set 5 _).drew,(HW2.o.2.2.setCell (a:=J BX 5) (fun e=>absurd e (by have:=HBX.o;show ¬BX<w.heap.size;omega)) _).drew⟩;exact(HW2.o.1.side HW2.o.2.1 ((Mod.refl (fun k=>k=BX) _).setCell (a:=J BX 5) (fun _=>rfl) _) (fun e=>by have:=HI.o.MH.lt e;have:=HBX.o;omega)).no ((Mod.refl _ _).drew)
  generalize (W2.setCell (J BX 5) (I ((u:Int)-1))).drew=W3 at HW3 ⊢;clear HW2 b0 b5 f5 k11 cu;have b5:=HW3.o.2.1.cell 5 rfl;go_wp2_with fail;clear b5;have aC0:=qH hsn;have HR:=qH hR;clear hsn hR;obtain⟨FN,IU⟩:=eX found.length;have HFN:=qH IU.symm;rw[<-IU]at hfl;clear IU;go_loopg [4] 10000000000000 (fun gh v4 wr=>∃i:Int,v4=I i∧M2.seen found h0 h1 gh i=some b∧SG v base S ka kw kh kd vp c5 vn vs vf vo fo (Jn gl NL lc) R found last wr∧aG wr BX [I pair,.string SA,.string SB,I fr,I l,I ((u:Int)-1)] 220∧Mod No w wr)
  case atStart=>exact⟨_,rfl,aC0.o,HW3.o⟩
  case round=>
   clear HW3 aC0;obtain⟨i,rfl,hgo,hI⟩:=hrel;have HI3:=qH hI
   match gk,hgo with
   | 0,hgo=>cases hgo
   | f+1,hgo=>
    rcases Xp hgo with ⟨hi0,hb⟩ | ⟨k,x,hik,hx,hc⟩
    ·have aIf:¬(0:Int)<=i:=by omega
     have HR2:Hd (found'=found++[⟨pair,h0,h1,fr,l,(u:Int)-1⟩]∧last'=last.set pair (FN+1)):=by
      have:=HR.o;rw[hb]at this;simp only[Bool.false_eq_true,if_false,Prod.mk.injEq]at this;rw[<-HFN.o];exact this
     obtain⟨fA,fC,uH,-,hown⟩:=hI.1.MH.open HFN.o;have hown:wr.ownsRow 0 220 6 (.slice fA FN fC) FN (found.flatMap FnE.f):=hown;have y5:=qH uH;have k10:=hI.1.blk.cell 10 rfl;have K10:=hI.1.blk.aS 10 rfl;rw[uH]at k10 K10;have F10:=hI.1.blk.dQ 10;have hSl:=hI.1.blk.lt;have hSf:some S≠(Value.slice fA FN fC).ownBlock:=by rw[<-uH];exact fun e=>hI.1.blk.apart hI.1.MH (by decide) e.symm
     have b0:=hI.2.1.cell 0 rfl;have b1:=hI.2.1.cell 1 rfl;have b2:=hI.2.1.cell 2 rfl;have b3:=hI.2.1.cell 3 rfl;have b4:=hI.2.1.cell 4 rfl;have b5:=hI.2.1.cell 5 rfl;obtain⟨i0,af,hz0,hz1,hz2⟩:=info_parts aJU;clear hI hgo uH HR hb;go_wp2_with fail
     go_region_law (refine step_append_lies _ (by rfl) _ _ _ (by rfl) 0 220 i0 _ 6 64 underlying170 af hz0 hz1 hz2 rfl (by omega) (.slice fA FN fC) FN (found.flatMap FnE.f) (by rfl) ((hown.alloc _).drew) (J wr.heap.size 0) 1 1 [I pair,.string SA,.string SB,I fr,I l,I ((u:Int)-1)] (by rfl) (by rfl) (World.news_of_block (cs:=#[I pair,.string SA,.string SB,I fr,I l,I ((u:Int)-1)]) (t:=220) (fr:=(0,0)) (heap_alloc_new wr _)) (by intro u hu;simp at hu;rcases hu with rfl | rfl | rfl | rfl | rfl | rfl <;> rfl) (by omega) (by unfold maxLen;omega) (by omega) (by simp) (wr.heap.size+1) (by simp) ?_;intro gg cap2 w7 gV hgrow hat fJ;have s0:=(hgrow.cell_far (J S 10) (by simp;omega) hSf).trans (K10 _);have s1:=(hgrow.frozen_far (J S 10) (by simp;omega) hSf).trans (F10 _))
     all_goals
      have mV:=HI3.o.1.no (((Mod.refl _ _).alloc (.cells #[I pair,.string SA,.string SB,I fr,I l,I ((u:Int)-1)] 220)).drew);have vY:Row FnE w7 (Jn gg (FN+1) cap2) (found++[⟨pair,h0,h1,fr,l,(u:Int)-1⟩]):=jq HFN.o (by rw[Gp.o.1,Gp.o.2];rfl) gV;have HF7:Hd (aN wr fo (Jn gg (FN+1) cap2)):=gW (H:=wr.heap.size+1) (by rw[y5.o];exact hat) (by omega);have gU:=qH (mV.more (by rw[y5.o];exact hgrow) vY);have Jm:Mod (Ad S fo (Jn gl NL lc)) wr w7:=(((Mod.refl _ _).alloc _).drew).grown hgrow (fun g hg _=>Or.inr (Or.inl (by rw[y5.o];exact hg)));have HM8:Hd (Mod (Ad S fo (Jn gl NL lc)) wr (w7.setCell (J S 10) (Jn gg (FN+1) cap2))):=Jm.setCell (a:=J S 10) (fun _=>Or.inl rfl) _;have Vu:aG w7 BX [I pair,.string SA,.string SB,I fr,I l,I ((u:Int)-1)] 220:=((HI3.o.2.1.alloc _).drew).grown hgrow (fun e=>by
       have h1:=HI.o.MH.lt (g:=BX) (by rw[y5.o];exact e.symm)
       have h2:=HBX.o
       omega)
      have hSB:=HI3.o.2.1.diff HI3.o.1.blk (by decide);have HB8:Hd (aG (w7.setCell (J S 10) (Jn gg (FN+1) cap2)) BX [I pair,.string SA,.string SB,I fr,I l,I ((u:Int)-1)] 220):=Vu.other (a:=J S 10) hSB _;generalize w7.setCell (J S 10) (Jn gg (FN+1) cap2)=w8 at gU HM8 HB8 ⊢;clear mV vY Jm gV hgrow hat fJ s0 s1 hown b0 b1 b2 b3 b4 b5 k10 K10 F10 af hz0 hz1 hz2 Vu hSf;have d10:=gU.o.blk.cell 10 rfl;have d11:=gU.o.blk.cell 11 rfl;have a0:=HB8.o.cell 0 rfl;have dP:=dh.cell gU.o.rla HU.o.2;have fP:=gU.o.rla.free pair;go_wp2_with fail
      go_region
      all_goals
       go_wp2;go_end0;rw[HR2.o.1,HR2.o.2];have h9:=gU.o.put (x:=FN+1) HU.o.2;refine⟨rfl,_,h9.no ((Mod.refl _ _).drew),?_,?_⟩
       ·intro g hg;rcases HF7.o g hg with e | e
        ·exact Or.inl e
        ·exact Or.inr (by have:=HI3.o.2.2.size;omega)
       ·exact(((HI3.o.2.2.more (S:=Ad S fo (Jn gl NL lc)) (fun _ _ e=>e.elim)).trans HM8.o).setCell (a:=J gl pair) (fun _=>Or.inr (Or.inr rfl)) _).drew
    ·subst hik;have hk:k<FN:=by rw[<-HFN.o];exact(bU hx).1
     obtain⟨gf,fC,uH,-,-⟩:=hI.1.MH.form (by have:=HFN.o;omega);rw[HFN.o]at uH;have hrf:=hI.1.MH;rw[uH]at hrf;have k10:=hI.1.blk.cell 10 rfl;rw[uH]at k10;obtain⟨XA,Yf⟩:=eX (⟨x.h0.toArray⟩:ByteArray);obtain⟨XB,Yg⟩:=eX (⟨x.h1.toArray⟩:ByteArray);have x1:wr.cell? (J gf (k*6+1))=some (.string XA):=by rw[Yf];exact hrf.cell k 1 hx rfl
     have x2:wr.cell? (J gf (k*6+2))=some (.string XB):=by rw[Yg];exact hrf.cell k 2 hx rfl
     have x5:wr.cell? (J gf (k*6+5))=some (I x.before):=hrf.cell k 5 hx rfl;have b1:=hI.2.1.cell 1 rfl;have b2:=hI.2.1.cell 2 rfl;have heq:∀w:World,(Op.equalIn 10000 218 (.agg #[.string XA,.string XB]) (.agg #[.string SA,.string SB])).run prog w=.ok (decide (x.h0=h0)&&decide (x.h1=h1)) w:=fun w=>by rw[Yf,Yg,Gp.o.1,Gp.o.2];exact aFK _ _ _ _ w
     have hki:(k:Int)<FN:=by omega
     have hk0:(0:Int)<=(k:Int):=by omega
     rcases hc with ⟨he,hb⟩ | ⟨he,hnx⟩
     ·have HR2:Hd (found'=found∧last'=last):=by
       have:=HR.o;rw[hb]at this;simp only[if_true,Prod.mk.injEq]at this;exact this
      rw[he]at heq;clear hI hgo uH HR hb hrf hx Yf Yg he;go_wp2_with fail;go_quiet (fail);go_wp2;refine bodyPost_ret (results_none rfl _ _ _) rfl ?_;rw[HR2.o.1,HR2.o.2];exact⟨rfl,fo,HI3.o.1.no ((Mod.refl _ _).drewN _),aN.refl _ _,(HI3.o.2.2.no ((Mod.refl _ _).drewN _)).more (fun _ _ e=>e.elim)⟩
     ·rw[he]at heq;have rM:=qH hnx;clear hI hgo uH hrf hx Yf Yg he hnx;go_wp2_with fail;go_quiet (fail);go_wp2;go_roundg f
      case measure=>omega
      case rel=>exact⟨_,rfl,rM.o,HI3.o.1.no ((Mod.refl _ _).drewN _),HI3.o.2.1.drewN _,HI3.o.2.2.no ((Mod.refl _ _).drewN _)⟩
theorem UJ{from':Int}{i:Int}{wd r:List UInt8}(h:eF found from' (n+1) i wd=some r):((i<0∨i=from')∧wd=r)∨(∃k f,i=((k:Nat):Int)∧¬i=from'∧found[k]?=some f∧f.l<4∧wd.length<=100000∧eF found from' n f.fr (if 0<=f.fr then aT f.l++wd else wd)=some r):=by
 rw[eF]at h;split at h
 ·rename_i hc;exact Or.inl ⟨hc,dY h⟩
 ·rename_i hc;split at h
  ·cases h
  ·rename_i f hf;split at h
   ·rename_i hl;exact Or.inr ⟨i.toNat,f,by omega,fun e=>hc (Or.inr e),hf,hl.1,hl.2,h⟩
   ·cases h
theorem MJ(h:gJ on (n+1) i found last=some R):∃f2 l2,uZ on found last i [] [] (-1) 0=some (f2,l2)∧gJ on n (i+1) f2 l2=some R:=by
 rw[gJ]at h;split at h
 ·cases h
 ·rename_i f2 l2 ha;exact⟨f2,l2,ha,h⟩
theorem Xq(w:World)(v:M2.View)(base S:Nat)(ka kw kh kd vp c5 vn vs vf vo fo la:Value)(R:M3.GG)(found:List fH)(last:List Nat)(h:SG v base S ka kw kh kd vp c5 vn vs vf vo fo la R found last w)(i from':Int){r:List UInt8}(hM:eF found from' 100000 i []=some r):J1 101 #[Jx S 0,I i,I from'] w fun e w'=>e=.returned (.string ⟨r.toArray⟩)∧Mod No w w':=by
 have HI:=qH h;have HM:=qH hM;go_enter func101,ntmps101;go_wp2_with fail;go_loopg [1,7] 100000 (fun gh v1 v7 wr=>∃(i:Int) (wd:List UInt8),v1=I i∧v7=.string ⟨wd.toArray⟩∧eF found from' gh i wd=some r∧SG v base S ka kw kh kd vp c5 vn vs vf vo fo la R found last wr∧Mod No w wr)
 case atStart=>exact⟨i,[],rfl,rfl,HM.o,HI.o,Mod.refl _ _⟩
 case round=>
  obtain⟨i,wd,rfl,rfl,hgo,hI⟩:=hrel;have HI:=qH hI;obtain⟨WD,Xr⟩:=eX (⟨wd.toArray⟩:ByteArray);have XO:=qH Xr;rw[<-Xr];clear Xr
  match gk,hgo with
  | 0,hgo=>cases hgo
  | f+1,hgo=>
   rcases UJ hgo with ⟨hc,hr⟩ | ⟨k,x,hik,hif,hx,hl,hwl,hnx⟩
   ·have HR:=qH hr;by_cases hi0:i<0
    ·have hi1:¬(0:Int)<=i:=by omega
     go_wp2;go_ret;exact⟨by rw[XO.o,HR.o];rfl,HI.o.2⟩
    ·have hi1:(0:Int)<=i:=by omega
     have hif:i=from':=by rcases hc with h | h;exact absurd h hi0;exact h
     subst hif;go_wp2;go_ret;exact⟨by rw[XO.o,HR.o];rfl,HI.o.2⟩
   ·subst hik;obtain⟨FN,IU⟩:=eX found.length;have hk:k<FN:=by rw[IU];exact(bU hx).1
    obtain⟨gf,fC,uH,-,-⟩:=hI.1.MH.form (by omega);rw[<-IU]at uH;have hrf:=hI.1.MH;rw[uH]at hrf;have k10:=hI.1.blk.cell 10 rfl;rw[uH]at k10;obtain⟨XA,Yf⟩:=eX (⟨x.h0.toArray⟩:ByteArray);obtain⟨XB,Yg⟩:=eX (⟨x.h1.toArray⟩:ByteArray);have x0:wr.cell? (J gf (k*6))=some (I x.pair):=hrf.cell k 0 hx rfl;have x1:wr.cell? (J gf (k*6+1))=some (.string XA):=by rw[Yf];exact hrf.cell k 1 hx rfl
    have x2:wr.cell? (J gf (k*6+2))=some (.string XB):=by rw[Yg];exact hrf.cell k 2 hx rfl
    have x3:wr.cell? (J gf (k*6+3))=some (I x.fr):=hrf.cell k 3 hx rfl;have x4:wr.cell? (J gf (k*6+4))=some (I x.l):=hrf.cell k 4 hx rfl;have x5:wr.cell? (J gf (k*6+5))=some (I x.before):=hrf.cell k 5 hx rfl;have hki:(k:Int)<FN:=by omega
    have hk0:(0:Int)<=(k:Int):=by omega
    have hne:((k:Int)==from')=false:=by rw[beq_eq_false_iff_ne];exact hif
    have hne2:((k:Int) != from')=true:=by rw[bne,hne];rfl
    obtain⟨l,hll⟩:=eX x.l;rw[<-hll]at x4 hl hnx;have HLC:=qH (uG l hl);have hl1:(l:Int)+1<=4:=by omega
    have hl2:(0:Int)<=(l:Int)+1:=by omega
    have hl5:(l:Int)<=l+1:=by omega
    have hl6:((l:Int)+1).toNat=l+1:=by omega
    have hwr:IntKind.i64.wrap ((l:Int)+1)=(l:Int)+1:=by rw[IntKind.wrap_i64];omega
    have hWs:WD.size<=100000:=by rw[XO.o,aZ];exact hwl
    have Lj:¬9223372036854775807<min (l+1) 4-l+WD.size:=by omega
    have rM:=qH hnx;by_cases h0:0<=x.fr
    ·clear hI hgo uH hrf hx Yf Yg hnx IU hll hif;go_wp2;go_roundg f
     case measure=>omega
     case rel=>
      have h2:=rM.o;rw[aP h0]at h2;exact⟨_,_,rfl,by rw[HLC.o,XO.o,oD],h2,HI.o.1.no ((Mod.refl _ _).alloc _),HI.o.2.alloc _⟩
    ·clear hI hgo uH hrf hx Yf Yg hnx IU hll hif;go_wp2;go_roundg f
     case measure=>omega
     case rel=>
      have h2:=rM.o;rw[aU (by omega)]at h2;exact⟨_,_,rfl,by rw[XO.o],h2,HI.o.1.no ((Mod.refl _ _).alloc _),HI.o.2.alloc _⟩
structure Xt(w:World)(v:M2.View)(base S:Nat)(ka kw kh kd vp c5 vn vs vf vo fo0 fo la:Value)(R:M3.GG)(found:List fH)(last:List Nat)(wr:World):Prop where
 sg:SG v base S ka kw kh kd vp c5 vn vs vf vo fo la R found last wr
 md:Mod (Ad S fo0 la) w wr
 ff:aN w fo0 fo
section
variable {w:World} {v:M2.View} {base S:Nat} {ka kw kh kd vp c5 vn vs vf vo fo0 fo la:Value} {R:M3.GG} {found:List fH} {last:List Nat} {wr wr':World}
theorem Xt.no(h:Xt w v base S ka kw kh kd vp c5 vn vs vf vo fo0 fo la R found last wr)(hm:Mod No wr wr'):Xt w v base S ka kw kh kd vp c5 vn vs vf vo fo0 fo la R found last wr':=⟨h.sg.no hm,h.md.no hm,h.ff⟩
theorem Xt.add{Qu:Value}{l2:List Nat}(h:Xt w v base S ka kw kh kd vp c5 vn vs vf vo fo0 fo la R found last wr)(hs:SG v base S ka kw kh kd vp c5 vn vs vf vo Qu la R f2 l2 wr')(hf:aN wr fo Qu)(hm:Mod (Ad S fo la) wr wr'):Xt w v base S ka kw kh kd vp c5 vn vs vf vo fo0 Qu la R f2 l2 wr':=by
 refine⟨hs,h.md.trans' hm (fun q hq e=>?_),h.ff.trans hf h.md.size⟩;rcases e with e | e | e
 ·exact Or.inl e
 ·rcases h.ff q e with e2 | e2
  ·exact Or.inr (Or.inl e2)
  ·omega
 ·exact Or.inr (Or.inr e)
end
theorem Xu(w:World)(v:M2.View)(base S:Nat)(ka kw kh kd vp vn vs vf vo:Value)(R:M3.GG)(h:SG v base S ka kw kh kd vp (I R.st) vn vs vf vo aH aH R [] [] w)(hpl:R.g.pairs.length<=100000)(hst:R.st<=100000)(hM:gJ R.on R.st 0 [] (replicate R.g.pairs.length 0)=some (found,last)):J1 63 #[Jx S 0] w fun e w'=>e=.returned (.tuple #[])∧∃fo la,SG v base S ka kw kh kd vp (I R.st) vn vs vf vo fo la R found last w'∧Mod (fun k=>k=S) w w'∧(∀q,fo.ownBlock=some q->w.heap.size<=q)∧(∀q,la.ownBlock=some q->w.heap.size<=q):=by
 obtain⟨NP,hNP⟩:=eX R.g.pairs.length;obtain⟨ST,hST⟩:=eX R.st;obtain⟨pA,pC,BN,-,-⟩:=h.pr.open (n:=NP) hNP.symm;rw[<-hNP]at hM hpl;rw[<-hST]at hM h hst ⊢;have HI:=qH h;have HM:=qH hM;have hmk:=iO NP (by omega);have k4:=h.blk.cell 4 rfl;rw[BN]at k4;have K11:=h.blk.aS 11 rfl;have F11:=h.blk.dQ 11;have aIg:¬S=w.heap.size:=by have:=h.blk.lt;omega
 have HI0:Hd (∀A,A=Obj.cells (Array.replicate NP (I 0)) 3->SG v base S ka kw kh kd vp (I ST) vn vs vf vo aH (Jn w.heap.size NP NP) R [] (replicate NP 0) ((w.alloc A).setCell (J S 11) (Jn w.heap.size NP NP))∧Mod (fun k=>k=S) w ((w.alloc A).setCell (J S 11) (Jn w.heap.size NP NP))):=by
  intro A hA;subst hA;have hr:Row dh (w.alloc (.cells (Array.replicate NP (I 0)) 3)) (Jn w.heap.size NP NP) (replicate NP 0):=by
   have e:((replicate NP (I 0)).toArray:Array Value)=Array.replicate NP (I 0):=by simp
   have b0:aG (w.alloc (.cells (Array.replicate NP (I 0)) 3)) w.heap.size ((replicate NP (0:Nat)).flatMap dh.f) 3:=by rw[jL];unfold aG;rw[e];exact heap_alloc_new w _
   have r0:=Row.of_block (E:=dh) b0 (by simp;unfold maxLen;omega);rw[length_replicate]at r0;exact r0
  have h1:=h.no (w':=w.alloc (.cells (Array.replicate NP (I 0)) 3)) ((Mod.refl _ _).alloc _);have hm2:Mod (fun k=>k=S) (w.alloc (.cells (Array.replicate NP (I 0)) 3)) ((w.alloc (.cells (Array.replicate NP (I 0)) 3)).setCell (J S 11) (Jn w.heap.size NP NP)):=(Mod.refl (fun k=>k=S) _).setCell (a:=J S 11) (fun _=>rfl) _;have hs2:=Safe.one h1.blk;refine⟨⟨h1.blk.set 11 _,h1.vw.far hm2 hs2 (by decide) (by decide),h1.pr.safe hm2 hs2 (by decide) (by decide),h1.sp.safe hm2 hs2 (by decide) (by decide),h1.fi.safe hm2 hs2 (by decide) (by decide),h1.on.safe hm2 hs2 (by decide) (by decide),Row.nil _ _,hr.safe hm2 hs2 (by decide) (by decide),fun q hq e=>?_,fun q hq e=>?_⟩,((Mod.refl (fun k=>k=S) _).alloc _).setCell (a:=J S 11) (fun _=>rfl) _⟩
  ·cases hq;exact Nat.lt_irrefl _ (h.fi.lt e)
  ·cases hq;exact Nat.lt_irrefl _ (h.on.lt e)
 have HST:=qH hST;clear h hM hNP hST BN;go_enter func63,ntmps63;go_wp2_with fail;have HI1:=HI0.o _ rfl;have HI1:Hd (Xt ((w.alloc (.cells (Array.replicate NP (I 0)) 3)).setCell (J S 11) (Jn w.heap.size NP NP)) v base S ka kw kh kd vp (I ST) vn vs vf vo aH aH (Jn w.heap.size NP NP) R [] (replicate NP 0) ((w.alloc (.cells (Array.replicate NP (I 0)) 3)).setCell (J S 11) (Jn w.heap.size NP NP))∧Mod (fun k=>k=S) w ((w.alloc (.cells (Array.replicate NP (I 0)) 3)).setCell (J S 11) (Jn w.heap.size NP NP))):=⟨⟨HI1.1,Mod.refl _ _,aN.refl _ _⟩,HI1.2⟩;clear HI0 hmk k4 K11 F11;generalize (w.alloc (.cells (Array.replicate NP (I 0)) 3)).setCell (J S 11) (Jn w.heap.size NP NP)=W0 at HI1 ⊢;obtain⟨LA,hLA⟩:=eX (Jn w.heap.size NP NP);have HLA:Hd (LA.ownBlock=some w.heap.size):=by rw[hLA];rfl
 rw[<-hLA]at HI1;clear hLA;go_loopg [2] ST (fun gh v2 wr=>∃(i:Nat) (fo:Value) (f1:List fH) (l1:List Nat),i<=ST∧gh=ST-i∧v2=I i∧gJ R.on gh i f1 l1=some (found,last)∧Xt W0 v base S ka kw kh kd vp (I ST) vn vs vf vo aH fo LA R f1 l1 wr)
 case atStart=>exact⟨0,aH,[],_,by omega,by omega,rfl,HM.o,HI1.o.1⟩
 case round=>
  clear HM HI;have HM0:=qH HI1.o.2;clear HI1;obtain⟨i,fo,f1,l1,hin,hgk,rfl,hgo,hI⟩:=hrel;have HI:=qH hI;have k5:=hI.sg.blk.cell 5 rfl;by_cases hlt:i<ST
  ·obtain⟨c,hc⟩:∃c,gk=c+1:=⟨ST-(i+1),by omega⟩;rw[hc]at hgo;obtain⟨f2,l2,ha,hnx⟩:=MJ hgo;have h56:=QV wr v base S ka kw kh kd vp (I ST) vn vs vf vo fo LA R f1 l1 hI.sg i [] [] (-1) 0 ha;have rM:=qH hnx;have HC:Hd (c=ST-(i+1)):=qH <| by omega
   have hii:(i:Int)<ST:=by omega
   clear hI hgo ha hnx hc;go_wp2_with fail;refine h56.mono ?_;rintro e w8 ⟨rfl,fo2,hS8,Qs,Jm⟩;have gU:=qH (HI.o.add hS8 Qs Jm);clear h56 hS8 Qs Jm HI k5;go_wp2;go_roundg (ST-(i+1))
   case measure=>omega
   case rel=>exact⟨i+1,fo2,f2,l2,by omega,rfl,by go_num,by rw[<-HC.o];exact rM.o,gU.o⟩
  ·have hi2:i=ST:=by omega
   rw[hgk,hi2,Nat.sub_self]at hgo;have HG:Hd (f1=found∧l1=last):=by cases hgo;exact⟨rfl,rfl⟩
   have hii:¬(i:Int)<ST:=by omega
   clear hI hgo hgk hi2;go_wp2;go_end0;have hI:=HI.o;rw[HG.o.1,HG.o.2]at hI;have hs0:=HM0.o.size;refine⟨rfl,fo,LA,hI.sg,HM0.o.trans' hI.md (fun q hq e=>?_),fun q hq=>?_,fun q hq=>?_⟩
   ·rcases e with e | e | e
    ·exact e
    ·cases e
    ·rw[HLA.o]at e;cases e;omega
   ·rcases hI.ff q hq with e | e
    ·cases e
    ·omega
   ·rw[HLA.o]at hq;cases hq;exact dH _
theorem H7:∀(a b:List UInt8),aI.common a b<=b.length
 | [],_=>by simp[aI.common]
 | _::_,[]=>by simp[aI.common]
 | x::v,y::w=>by
  rw[aI.common];have:=H7 v w;split <;> simp <;> omega
theorem MK(x:List UInt8)(c n:Nat)(hn:n=x.length):(⟨x.toArray⟩:ByteArray).extract c n=⟨(x.drop c).toArray⟩:=by
 apply zh;rw[extract_data];subst hn;exact take_of_length_le (by simp)
theorem Jo{R:M3.GG}(h:y8 R i found last=some r):∃f a b,found[i]?=some f∧R.first[f.pair]?=some a∧R.first[f.pair+1]?=some b∧a<=b∧b<=R.g.steps.length∧b<=10000000000∧found.length<=2199023000000∧R.first.length<=200000∧jr R.on i f.h0 f.h1 ((R.g.steps.take b).drop a) found last=some r:=by
 unfold y8 at h;split at h
 ·cases h
 ·rename_i f hf;split at h
  ·rename_i a b ha hb;split at h
   ·rename_i hc;exact⟨f,a,b,hf,ha,hb,hc.1,hc.2.1,hc.2.2.1,hc.2.2.2.1,hc.2.2.2.2,h⟩
   ·cases h
  ·cases h
theorem QW{b:M2.Stp}{bs:List M2.Stp}(h:jr on i h0 h1 (b::bs) found last=some r):(h0++b.s0).length<=100000∧(h1++b.s1).length<=100000∧∃f2 l2,uZ on found last b.tt ((h0++b.s0).drop (aI.common (h0++b.s0) (h1++b.s1))) ((h1++b.s1).drop (aI.common (h0++b.s0) (h1++b.s1))) (i:Int) b.l=some (f2,l2)∧jr on i h0 h1 bs f2 l2=some r:=by
 rw[jr]at h;split at h
 ·rename_i hc;split at h
  ·cases h
  ·rename_i f2 l2 ha;exact⟨hc.1,hc.2,f2,l2,ha,h⟩
 ·cases h
theorem aAM(w:World)(v:M2.View)(base S:Nat)(ka kw kh kd vp c5 vn vs vf vo fo la:Value)(R:M3.GG)(found:List fH)(last:List Nat)(h:SG v base S ka kw kh kd vp c5 vn vs vf vo fo la R found last w)(i:Nat)(hM:y8 R i found last=some (found',last')):J1 65 #[Jx S 0,I i] w fun e w'=>e=.returned (.tuple #[])∧∃Qu,Xt w v base S ka kw kh kd vp c5 vn vs vf vo fo Qu la R found' last' w':=by
 obtain⟨f,a,b,hf,ha,hb,hab,hbl,hb6,hfl,hvl,hgo⟩:=Jo hM;obtain⟨FN,IU⟩:=eX found.length;obtain⟨VN,hVN⟩:=eX R.first.length;obtain⟨SN,hSN⟩:=eX R.g.steps.length;have hk:i<FN:=by rw[IU];exact(bU hf).1
 have hpv:f.pair+1<VN:=by rw[hVN];exact(bU hb).1
 obtain⟨gf,fC,uH,hgf,-⟩:=h.MH.form (by omega);obtain⟨gv,vC,evv,-,-⟩:=h.fi.form (by omega);obtain⟨sA,sC,evs,hsC,-⟩:=h.sp.open (n:=SN) hSN.symm;rw[<-IU]at uH hfl;rw[<-hVN]at evv hvl;rw[<-hSN]at hbl;have hrf:=h.MH;rw[uH]at hrf;have hrv:=h.fi;rw[evv]at hrv;obtain⟨pr,hpr⟩:=eX f.pair;obtain⟨XA,Yf⟩:=eX (⟨f.h0.toArray⟩:ByteArray);obtain⟨XB,Yg⟩:=eX (⟨f.h1.toArray⟩:ByteArray);rw[<-hpr]at ha hb hpv;have x0:w.cell? (J gf (i*6))=some (I pr):=by rw[hpr];exact hrf.cell i 0 hf rfl
 have x1:w.cell? (J gf (i*6+1))=some (.string XA):=by rw[Yf];exact hrf.cell i 1 hf rfl
 have x2:w.cell? (J gf (i*6+2))=some (.string XB):=by rw[Yg];exact hrf.cell i 2 hf rfl
 have x3:w.cell? (J gf (i*6+3))=some (I f.fr):=hrf.cell i 3 hf rfl;have x4:w.cell? (J gf (i*6+4))=some (I f.l):=hrf.cell i 4 hf rfl;have x5:w.cell? (J gf (i*6+5))=some (I f.before):=hrf.cell i 5 hf rfl;have k10:=h.blk.cell 10 rfl;rw[uH]at k10;have HI:=qH h;have HE:=qH (a6 uH evv evs hSN Yf Yg);have HAB:=qH (a2 ha hb);have Jg:=qH hgo;have hki:(i:Int)<FN:=by omega
 have aGv:(0:Int)<=(i:Int):=by omega
 clear h hM hf ha hb hgo hrf hrv uH evv evs IU hVN hSN hpr Yf Yg;go_enter func65,ntmps65;go_wp2_with fail;have HW1:Hd (SG v base S ka kw kh kd vp c5 vn vs vf vo fo la R found last (w.alloc (.cells #[I pr,.string XA,.string XB,I f.fr,I f.l,I f.before] 220))∧aG (w.alloc (.cells #[I pr,.string XA,.string XB,I f.fr,I f.l,I f.before] 220)) w.heap.size [I pr,.string XA,.string XB,I f.fr,I f.l,I f.before] 220∧Mod No w (w.alloc (.cells #[I pr,.string XA,.string XB,I f.fr,I f.l,I f.before] 220))):=⟨HI.o.no ((Mod.refl _ _).alloc _),heap_alloc_new w _,(Mod.refl _ _).alloc _⟩;generalize w.alloc (.cells #[I pr,.string XA,.string XB,I f.fr,I f.l,I f.before] 220)=W1 at HW1 ⊢;obtain⟨FB,Vz⟩:=eX w.heap.size;have HFB:=qH Vz;rw[<-Vz]at HW1 ⊢;clear Vz x0 x1 x2 x3 x4 x5 k10;have b0:=HW1.o.2.1.cell 0 rfl;have k7:=HW1.o.1.blk.cell 7 rfl;have k8:=HW1.o.1.blk.cell 8 rfl;rw[HE.o.2.2.1]at k7;rw[HE.o.2.1]at k8;have cA:W1.cell? (J gv pr)=some (I a):=by have:=HW1.o.1.fi;rw[HE.o.2.1]at this;exact dh.cell this HAB.o.1
 have cB:W1.cell? (J gv (pr+1))=some (I b):=by have:=HW1.o.1.fi;rw[HE.o.2.1]at this;exact dh.cell this HAB.o.2
 have hp1:(pr:Int)<VN:=by omega
 have hp2:(pr:Int)+1<(VN:Int):=by omega
 have hp3:(0:Int)<=(pr:Int)+1:=by omega
 have hp4:((pr:Int)+1).toNat=pr+1:=by omega
 have aG2:(a:Int)<=b:=by omega
 have aG3:(b:Int)<=sC:=by omega
 go_quiet (fail);have HW2:Hd (Xt (W1.drewN nq) v base S ka kw kh kd vp c5 vn vs vf vo fo fo la R found last (W1.drewN nq)∧aG (W1.drewN nq) FB [I pr,.string XA,.string XB,I f.fr,I f.l,I f.before] 220∧Mod No w (W1.drewN nq)):=⟨⟨HW1.o.1.no ((Mod.refl _ _).drewN _),Mod.refl _ _,aN.refl _ _⟩,HW1.o.2.1.drewN _,HW1.o.2.2.drewN _⟩;generalize W1.drewN nq=W2 at HW2 ⊢;clear HW1 b0 k7 k8 cA cB hp1 hp2 hp3 hp4 aG2 aG3;obtain⟨AD,hAD⟩:=eX (if sC=a then sA else Option.map (fun x=>x.add (a*5)) sA);obtain⟨D,hD⟩:=eX (b-a);rw[<-hAD,<-hD];have HST:Hd (((R.g.steps.take b).drop a).length=D∧∀j,j<D->∃gs s,sA=some (J gs 0)∧AD=some (J gs (a*5))∧R.g.steps[a+j]?=some s∧(R.g.steps.take b).drop a=(R.g.steps.take b).drop a∧((R.g.steps.take b).drop a).drop j=s::((R.g.steps.take b).drop a).drop (j+1)):=by
  have hl:((R.g.steps.take b).drop a).length=D:=by
   rw[length_drop,length_take,<-HE.o.2.2.2.1];omega
  refine⟨hl,fun j hj=>?_⟩;obtain⟨gs,cc,e1,-,-⟩:=HI.o.sp.form (by rw[<-HE.o.2.2.2.1];omega);rw[HE.o.2.2.1]at e1;injection e1 with e1 e2 e3;refine⟨gs,R.g.steps[a+j]'(by rw[<-HE.o.2.2.2.1];omega),e1,?_,bG _,rfl,?_⟩
  ·rw[hAD,aU (by omega),e1];show some (((J gs 0):Addr).add (a*5))=_;rw[addr_add]
  ·rw[kJ (by rw[hl];exact hj)];congr 1;simp
 obtain⟨aC,aFL⟩:=eX ((R.g.steps.take b).drop a);rw[<-aFL]at HST Jg;have hDb:D<=10000000000:=by omega
 clear hAD hD aFL;go_wp2_with fail;go_loopg [45] D (fun gh v45 wr=>∃(j:Nat) (fo1:Value) (f1:List fH) (l1:List Nat),j<=D∧gh=D-j∧v45=I j∧jr R.on i f.h0 f.h1 (aC.drop j) f1 l1=some (found',last')∧Xt W2 v base S ka kw kh kd vp c5 vn vs vf vo fo fo1 la R f1 l1 wr)
 case atStart=>exact⟨0,fo,found,last,by omega,by omega,rfl,Jg.o,HW2.o.1⟩
 case round=>
  clear Jg;obtain⟨j,fo1,f1,l1,hjD,hgk,rfl,hgo,hI⟩:=hrel;have HI1:=qH hI;by_cases hlt:j<D
  ·obtain⟨gs,st,esA,eAD,hst,-,hdr⟩:=HST.o.2 j hlt;subst eAD;subst esA;rw[hdr]at hgo;obtain⟨hx5,hy5,f2,l2,hadd,hnx⟩:=QW hgo;have hrs:=hI.sg.sp;rw[HE.o.2.2.1]at hrs;obtain⟨YA,hYA⟩:=eX (⟨st.s0.toArray⟩:ByteArray);obtain⟨YB,hYB⟩:=eX (⟨st.s1.toArray⟩:ByteArray);have eo:∀c,(a+j)*5+c=a*5+j*5+c:=fun c=>by rw[Nat.add_mul]
   have x0:wr.cell? (J gs (a*5+j*5))=some (I st.fr):=by have h:=hrs.cell (a+j) 0 hst rfl;exact(eo 0) ▸ h
   have x1:wr.cell? (J gs (a*5+j*5+1))=some (I st.tt):=by have h:=hrs.cell (a+j) 1 hst rfl;exact(eo 1) ▸ h
   have x2:wr.cell? (J gs (a*5+j*5+2))=some (I st.l):=by have h:=hrs.cell (a+j) 2 hst rfl;exact(eo 2) ▸ h
   have x3:wr.cell? (J gs (a*5+j*5+3))=some (.string YA):=by have h:=hrs.cell (a+j) 3 hst rfl;rw[hYA];exact(eo 3) ▸ h
   have x4:wr.cell? (J gs (a*5+j*5+4))=some (.string YB):=by have h:=hrs.cell (a+j) 4 hst rfl;rw[hYB];exact(eo 4) ▸ h
   have hBF:aG wr FB [I pr,.string XA,.string XB,I f.fr,I f.l,I f.before] 220:=HW2.o.2.1.mod hI.md (by
    rintro(e | e | e)
    ·exact HW2.o.2.1.diff HW2.o.1.sg.blk (by decide) e
    ·have h1:=HI.o.MH.lt e;have h2:=HFB.o;omega
    ·exact HW2.o.2.1.apart HW2.o.1.sg.rla (by decide) e)
   have B1:=hBF.aS 1 rfl;have B2:=hBF.aS 2 rfl;obtain⟨x,hx⟩:=eX (f.h0++st.s0);obtain⟨y,hy⟩:=eX (f.h1++st.s1);rw[<-hx,<-hy]at hadd;rw[<-hx]at hx5;rw[<-hy]at hy5;have hXY:XA++YA=(⟨x.toArray⟩:ByteArray):=by rw[HE.o.2.2.2.2.1,hYA,oD,hx]
   have aEn:XB++YB=(⟨y.toArray⟩:ByteArray):=by rw[HE.o.2.2.2.2.2,hYB,oD,hy]
   have hs1:XA.size+YA.size=x.length:=by rw[HE.o.2.2.2.2.1,hYA,aZ,aZ,hx,length_append]
   have hs2:XB.size+YB.size=y.length:=by rw[HE.o.2.2.2.2.2,hYB,aZ,aZ,hy,length_append]
   have Lj:¬9223372036854775807<XA.size+YA.size:=by omega
   have aHk:¬9223372036854775807<XB.size+YB.size:=by omega
   obtain⟨c,hc⟩:=eX (aI.common x y);rw[<-hc]at hadd;have hcl:c<=x.length∧c<=y.length:=by rw[hc];exact⟨xC x y,H7 x y⟩
   have hcm:∀wx,J1 77 #[.string (XA++YA),.string (XB++YB)] wx fun e w'=>e=.returned (I c)∧∃n,w'=wx.drewN n:=fun wx=>by
    rw[hXY,aEn,hc];exact yQ ⟨x.toArray⟩ ⟨y.toArray⟩ wx (by rw[aZ];omega) (by rw[aZ];omega)
   have hji:(j:Int)<D:=by omega
   have hj0:(0:Int)<=(j:Int):=by omega
   have hc1:c<=XA.size+YA.size:=by omega
   have hc2:c<=XB.size+YB.size:=by omega
   have aIh:(c:Int)<=XA.size+(YA.size:Int):=by omega
   have aIi:(c:Int)<=XB.size+(YB.size:Int):=by omega
   have HXY:=qH (a4 hXY aEn hs1 hs2);have aG4:=qH hadd;have rM:=qH hnx;clear hI hgo hdr hrs hst hBF hYA hYB hXY aEn hs1 hs2 hx hy hadd hnx hcl hc eo;go_wp2_with fail;refine(hcm _).mono ?_;rintro e w3 ⟨rfl,nn,rfl⟩;go_wp2_with fail;have HI4:Hd (Xt W2 v base S ka kw kh kd vp c5 vn vs vf vo fo fo1 la R f1 l1 ((wr.alloc (.cells #[I st.fr,I st.tt,I st.l,.string YA,.string YB] 225)).drewN nn)∧aG ((wr.alloc (.cells #[I st.fr,I st.tt,I st.l,.string YA,.string YB] 225)).drewN nn) wr.heap.size [I st.fr,I st.tt,I st.l,.string YA,.string YB] 225):=⟨HI1.o.no (((Mod.refl _ _).alloc _).drewN _),heap_alloc_new wr _⟩;generalize (wr.alloc (.cells #[I st.fr,I st.tt,I st.l,.string YA,.string YB] 225)).drewN nn=W4 at HI4 ⊢;clear hcm x0 x1 x2 x3 x4 B1 B2;have q1:=HI4.o.2.cell 1 rfl;have q2:=HI4.o.2.cell 2 rfl;have H56:Hd (∀wx,Mod No W4 wx->J1 100 #[Jx S 0,.agg #[I st.tt,.string ((XA++YA).extract c (XA.size+YA.size)),.string ((XB++YB).extract c (XB.size+YB.size)),I i,I st.l,I 0]] wx fun e w'=>e=.returned (.tuple #[])∧∃Qu,SG v base S ka kw kh kd vp c5 vn vs vf vo Qu la R f2 l2 w'∧aN wx fo1 Qu∧Mod (Ad S fo1 la) wx w'):=by
    intro wx hm;rw[HXY.o.1,HXY.o.2.1,MK x c _ HXY.o.2.2.1,MK y c _ HXY.o.2.2.2];exact QV wx v base S ka kw kh kd vp c5 vn vs vf vo fo1 la R f1 l1 (HI4.o.1.sg.no hm) st.tt (x.drop c) (y.drop c) (i:Int) st.l aG4.o
   go_region_with (go_at_call 100;refine(H56.o _ ((Mod.refl _ _).drew)).mono ?_;rintro e w5 ⟨rfl,fo2,hS5,hf5,hm5⟩);all_goals
    have BD:=qH ((HI4.o.1.no ((Mod.refl _ _).drew)).add hS5 hf5 hm5);clear q1 q2 hS5 hf5 hm5 H56 HI4;go_wp2;go_roundg (D-(j+1))
    case measure=>omega
    case rel=>exact⟨j+1,fo2,f2,l2,by omega,rfl,by go_num,rM.o,BD.o⟩
  ·have hj2:j=D:=by omega
   have e1:aC.drop j=[]:=drop_of_length_le (by rw[HST.o.1];omega);rw[e1]at hgo;have HG:Hd (f1=found'∧l1=last'):=by cases hgo;exact⟨rfl,rfl⟩
   have hji:¬(j:Int)<D:=by omega
   clear hI hgo e1 hgk hj2;go_wp2;go_end0;have hI:=HI1.o;rw[HG.o.1,HG.o.2]at hI;refine⟨rfl,fo1,hI.sg,(HW2.o.2.2.more (S:=Ad S fo la) (fun _ _ e=>e.elim)).trans hI.md,fun q hq=>?_⟩;rcases hI.ff q hq with e | e
   ·exact Or.inl e
   ·exact Or.inr (by have:=HW2.o.2.2.size;omega)
theorem ML(w:World)(T O E:ByteArray)(i:Nat)(hT:T.size<=10000000)(hO:O.size<=10000000)(hi:i<=100000000):J1 157 #[.agg #[.string T,.string O,.string E],I i] w fun e w'=>e=.returned (.int .u8 (Ba ⟨T.data.toList,O.data.toList,E.data.toList⟩ i:Int))∧Mod No w w':=by
 by_cases h1:i<T.size
 ·have h1i:(i:Int)<T.size:=by omega
  have h1j:(0:Int)<=(i:Int):=by omega
  go_enter func157,ntmps157;go_wp2;go_ret;refine⟨bQ ?_,(Mod.refl _ _).alloc _⟩;have hg:=tZ h1;unfold Ba;rw[aP (by simpa using h1),fM,hg];rfl
 ·have h1i:¬(i:Int)<T.size:=by omega
  by_cases h2:O.size=0
  ·have Rx:(O.size:Int)=0:=by omega
   go_enter func157,ntmps157;go_wp2;go_ret;refine⟨bQ ?_,(Mod.refl _ _).alloc _⟩;unfold Ba;have h3:(O.data.toList:List UInt8).isEmpty=true:=by
    rw[isEmpty_iff_length_eq_zero,bK];exact h2
   rw[aU (by simpa using h1),aP h3];rfl
  ·have Rx:((O.size:Int)==0)=false:=by rw[beq_eq_false_iff_ne];omega
   go_enter func157,ntmps157;go_wp2_with fail;have HW1:Hd (Mod No w (w.alloc (.cells #[.string T,.string O,.string E] 255))∧aG (w.alloc (.cells #[.string T,.string O,.string E] 255)) w.heap.size [.string T,.string O,.string E] 255):=⟨(Mod.refl _ _).alloc _,heap_alloc_new w _⟩;generalize w.alloc (.cells #[.string T,.string O,.string E] 255)=W1 at HW1 ⊢;have b0:=HW1.o.2.cell 0 rfl;have b1:=HW1.o.2.cell 1 rfl;obtain⟨d,hd⟩:=eX (i-T.size);obtain⟨m,hm⟩:=eX (d%O.size);have hmO:m<O.size:=by rw[hm];exact Nat.mod_lt _ (by omega)
   have hw1:IntKind.i64.wrap ((i:Int)-(T.size:Int))=(d:Int):=by rw[IntKind.wrap_i64];omega
   have hw2:((d:Int)).tmod (O.size:Int)=m:=by rw[hm];rfl
   have Vb:(m:Int)<O.size:=by omega
   have hm0:(0:Int)<=(m:Int):=by omega
   have HM:Hd (m=(i-T.size)%O.size):=qH <| by rw[<-hd];exact hm
   clear hd hm;go_quiet (fail);go_wp2;go_ret;refine⟨bQ ?_,HW1.o.1.drewN _⟩;unfold Ba;have h3:(O.data.toList:List UInt8).isEmpty=false:=by
    rw[Bool.eq_false_iff];intro h;rw[isEmpty_iff_length_eq_zero,bK]at h;exact h2 h
   have hg:=tZ hmO;rw[aU (by simpa using h1),aU (by rw[h3];simp)];simp only[bK];rw[<-HM.o,fM,hg];rfl
end Go.Proofs.YtoebidlghdidoaaGreatDoor
