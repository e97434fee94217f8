import Derived.Test.YtoebidlghdidoaaGreatDoorBA
import Derived.Shelf.Strconv.Itoa0
import Derived.Shelf.Strconv.Itoa1
import Derived.Shelf.LaysM
import Derived.Shelf.Strconv.Itoa2
import Derived.Shelf.Strconv.Itoa3
import Derived.Test.YtoebidlghdidoaaGreatDoorProg
import Derived.Lib.AppendStr
import Derived.Lib.AppendIntMem
import Derived.Lib.ItoaLen
set_option maxHeartbeats 4000000
set_option maxRecDepth 100000
namespace Go.Proofs.YtoebidlghdidoaaGreatDoor
open Tx M3 M2 Tryz List
section
open Go.RowKit
attribute [local go_sem ↓] Go.wp_at_zero Go.wp_at_succ
variable {v:M2.View} {R:M3.GG} {found:List fH} {i n:Nat} {r:Option pY}
theorem UX{here:Nat}{j:Int}(h:fV v R found i here (n+1) j=some r):(j<0∧∃tt on round en,eF found (-1) 100000 (i:Int) []=some tt∧bY R.on R.g.steps 100000 [] [] here=some (on,round,en)∧tt.length<=1000000∧on.length<=1000000∧M3.weigh v R.g.pairs (tt++on) round en=some r)∨(∃k f,j=((k:Nat):Int)∧found[k]?=some f∧((f.pair=here∧∃tt round,eF found (-1) 100000 j []=some tt∧eF found j 100000 (i:Int) []=some round∧M3.weigh v R.g.pairs tt round here=some r)∨(¬f.pair=here∧fV v R found i here n f.fr=some r))):=by
 rw[fV]at h;split at h
 ·rename_i hc;refine Or.inl ⟨hc,?_⟩;split at h
  ·rename_i tt on round en ht hci;split at h
   ·rename_i hb;exact⟨tt,on,round,en,ht,hci,hb.1,hb.2,h⟩
   ·cases h
  ·cases h
 ·rename_i hc;split at h
  ·cases h
  ·rename_i f hf;refine Or.inr ⟨j.toNat,f,by omega,hf,?_⟩;split at h
   ·rename_i hp;refine Or.inl ⟨hp,?_⟩;split at h
    ·rename_i tt round h1 h2;exact⟨tt,round,h1,h2,h⟩
    ·cases h
   ·rename_i hp;exact Or.inr ⟨hp,h⟩
theorem Jp(w:World)(v:M2.View)(base S:Nat)(ka kw kh kd vp c5 vn vs vf vo fo la:Value)(R:M3.GG)(found:List fH)(last:List Nat)(h:SG v base S ka kw kh kd vp c5 vn vs vf vo fo la R found last w)(i:Nat)(hM:M3.judge v R found i=some r):J1 64 #[Jx S 0,I i] w fun e w'=>e=.returned (wiR r)∧Mod No w w':=by
 unfold M3.judge at hM;split at hM
 ·cases hM
 rename_i f hf;obtain⟨FN,IU⟩:=eX found.length;have hk:i<FN:=by rw[IU];exact(bU hf).1
 obtain⟨gf,fC,uH,hgf,-⟩:=h.MH.form (by omega);rw[<-IU]at uH;have hrf:=h.MH;rw[uH]at hrf;obtain⟨here,aAP⟩:=eX f.pair;rw[<-aAP]at hM;obtain⟨S1,hS1⟩:=eX (⟨(r.getD H8).x.toArray⟩:ByteArray);obtain⟨S2,hS2⟩:=eX (⟨(r.getD H8).y.toArray⟩:ByteArray);obtain⟨S3,hS3⟩:=eX (⟨(r.getD H8).z1.toArray⟩:ByteArray);obtain⟨S4,hS4⟩:=eX (⟨(r.getD H8).z2.toArray⟩:ByteArray);obtain⟨sc,hsc⟩:=eX ((r.getD H8).c);obtain⟨sb,hsb⟩:=eX r.isSome;have HWI:Hd (wiR r=.tuple #[.agg #[.string S1,.string S2,.string S3,.string S4,I sc],.bool sb]):=by rw[hS1,hS2,hS3,hS4,hsc,hsb];rfl
 have H58:Hd (∀wx x y at',Mod No w wx->M3.weigh v R.g.pairs x y at'=some r->J1 102 #[Jx S 0,.string ⟨x.toArray⟩,.string ⟨y.toArray⟩,I ((at':Nat):Int)] wx fun e w'=>e=.returned (.tuple #[.agg #[.string S1,.string S2,.string S3,.string S4,I sc],.bool sb])∧Mod No wx w'):=fun wx x y at' hm hw=>by
  have:=Xw wx v base S ka kw kh kd vp c5 vn vs vf vo fo la R found last (h.no hm) x y at' hw
  rwa [HWI.o]at this
 have H57:=qH fun wx (a:Int) (b:Int) t (hm:Mod No w wx) (hw:eF found b 100000 a []=some t)=>Xq wx v base S ka kw kh kd vp c5 vn vs vf vo fo la R found last (h.no hm) a b hw
 have H59:=qH fun wx rr (hm:Mod No w wx) (hw:bY R.on R.g.steps 100000 [] [] here=some rr)=>UO wx v base S ka kw kh kd vp c5 vn vs vf vo fo la R found last (h.no hm) here hw
 have HI:Hd (Row FnE w (Jn gf FN fC) found∧aG w S [ka,kw,kh,kd,vp,c5,vn,vs,vf,vo,Jn gf FN fC,la] 172∧found.length=FN):=⟨hrf,by rw[<-uH];exact h.blk,IU.symm⟩;have HM:=qH hM;have K10:=h.blk.aS 10 rfl;rw[uH]at K10;have X0:∀o,(w.alloc o).cell? (J gf (i*6))=some (I here):=fun o=>by rw[aAP];exact(hrf.alloc o).cell i 0 hf rfl
 have X3:∀o,(w.alloc o).cell? (J gf (i*6+3))=some (I f.fr):=fun o=>(hrf.alloc o).cell i 3 hf rfl
 have hki:(i:Int)<FN:=by omega
 have hk0:(0:Int)<=(i:Int):=by omega
 clear h hM hf IU uH hrf aAP hS1 hS2 hS3 hS4 hsc hsb;go_enter func64,ntmps64;go_wp2_with fail;have HW1:Hd (Mod No w (w.alloc (.cells #[.string ⟨#[]⟩,.string ⟨#[]⟩,.string ⟨#[]⟩,.string ⟨#[]⟩,I 0] 40))∧aG (w.alloc (.cells #[.string ⟨#[]⟩,.string ⟨#[]⟩,.string ⟨#[]⟩,.string ⟨#[]⟩,I 0] 40)) w.heap.size [.string ⟨#[]⟩,.string ⟨#[]⟩,.string ⟨#[]⟩,.string ⟨#[]⟩,I 0] 40):=⟨(Mod.refl _ _).alloc _,heap_alloc_new w _⟩;generalize w.alloc (.cells #[.string ⟨#[]⟩,.string ⟨#[]⟩,.string ⟨#[]⟩,.string ⟨#[]⟩,I 0] 40)=W1 at HW1 ⊢;clear K10 X0 X3;go_loopg [7] 100000 (fun gh v7 wr=>∃j:Int,v7=I j∧fV v R found i here gh j=some r∧wr=W1)
 case atStart=>exact⟨_,rfl,HM.o,rfl⟩
 case round=>
  clear HM;obtain⟨j,rfl,hgo,rfl⟩:=hrel
  match gk,hgo with
  | 0,hgo=>cases hgo
  | g+1,hgo=>
   rcases UX hgo with ⟨hj,tt,on,round,en,ht,hci,htl,hol,hwe⟩ | ⟨k,x,hjk,hx,hcase⟩
   ·have hj1:¬(0:Int)<=j:=by omega
    have h57:=H57.o wr (i:Int) (-1) tt HW1.o.1 ht;obtain⟨TT,IQ⟩:=eX (⟨tt.toArray⟩:ByteArray);obtain⟨ON,hON⟩:=eX (⟨on.toArray⟩:ByteArray);obtain⟨RO,hRO⟩:=eX (⟨round.toArray⟩:ByteArray);rw[<-IQ]at h57;have h59:=fun wx hm=>H59.o wx (on,round,en) hm hci
    simp only[<-hON,<-hRO]at h59;have aG6:=qH h59;have aEp:Hd (∀wx,Mod No w wx->J1 102 #[Jx S 0,.string (TT++ON),.string RO,I en] wx fun e w'=>e=.returned (.tuple #[.agg #[.string S1,.string S2,.string S3,.string S4,I sc],.bool sb])∧Mod No wx w'):=fun wx hm=>by
     have:=H58.o wx (tt++on) round en hm hwe;rw[<-oD,<-IQ,<-hON,<-hRO]at this;exact this
    have hs1:TT.size<=1000000:=by rw[IQ,aZ];exact htl
    have hs2:ON.size<=1000000:=by rw[hON,aZ];exact hol
    have Lj:¬9223372036854775807<TT.size+ON.size:=by omega
    clear hgo ht hci hwe IQ hON hRO h59 H57 H58 H59;go_wp2_with fail;refine h57.mono ?_;rintro e w2 ⟨rfl,m2⟩;have HW2:=qH (a2 (HW1.o.1.no m2) (HW1.o.2.mod m2 (fun x=>x)));clear h57 m2 HW1;go_wp2_with fail;refine(aG6.o _ HW2.o.1).mono ?_;rintro e w3 ⟨rfl,m3⟩;have HW3:=qH (a2 (HW2.o.1.no m3) (HW2.o.2.mod m3 (fun x=>x)));clear m3 HW2;go_wp2_with fail;refine(aEp.o _ HW3.o.1).mono ?_;rintro e w4 ⟨rfl,m4⟩;have iq:=qH (a2 (HW3.o.1.no m4) (HW3.o.2.mod m4 (fun x=>x)));clear m4 HW3;have u0:=iq.o.2.cell 0 rfl;have u1:=iq.o.2.cell 1 rfl;have u2:=iq.o.2.cell 2 rfl;have u3:=iq.o.2.cell 3 rfl;have u4:=iq.o.2.cell 4 rfl;have f0:=iq.o.2.free 0;have f1:=iq.o.2.free 1;have f2:=iq.o.2.free 2;have f3:=iq.o.2.free 3;have f4:=iq.o.2.free 4;go_wp2;refine bodyPost_ret (v:=.tuple #[.agg #[.string S1,.string S2,.string S3,.string S4,I sc],.bool sb]) (by simp[results,results64,go_sem,u0,u1,u2,u3,u4]) rfl ?_;refine⟨by rw[HWI.o],?_⟩;exact((((iq.o.1.setCell (a:=J w.heap.size 0) (fun e=>absurd e (Nat.lt_irrefl _)) _).setCell (a:=J w.heap.size 1) (fun e=>absurd e (Nat.lt_irrefl _)) _).setCell (a:=J w.heap.size 2) (fun e=>absurd e (Nat.lt_irrefl _)) _).setCell (a:=J w.heap.size 3) (fun e=>absurd e (Nat.lt_irrefl _)) _).setCell (a:=J w.heap.size 4) (fun e=>absurd e (Nat.lt_irrefl _)) _
   ·subst hjk;have hkF:k<FN:=by rw[<-HI.o.2.2];exact(bU hx).1
    have hrf:=HI.o.1.no HW1.o.1;have x0:wr.cell? (J gf (k*6))=some (I x.pair):=hrf.cell k 0 hx rfl;have x3:wr.cell? (J gf (k*6+3))=some (I x.fr):=hrf.cell k 3 hx rfl;have k10:=(HI.o.2.1.mod HW1.o.1 (fun x=>x)).cell 10 rfl;have hkk:(k:Int)<FN:=by omega
    have aIr:(0:Int)<=(k:Int):=by omega
    rcases hcase with ⟨hp,tt,round,ht,hro,hwe⟩ | ⟨hp,hnx⟩
    ·rw[hp]at x0;have h57:=H57.o wr (k:Int) (-1) tt HW1.o.1 ht;obtain⟨TT,IQ⟩:=eX (⟨tt.toArray⟩:ByteArray);obtain⟨RO,hRO⟩:=eX (⟨round.toArray⟩:ByteArray);rw[<-IQ]at h57;have aG7:Hd (∀wx,Mod No w wx->J1 101 #[Jx S 0,I i,I k] wx fun e w'=>e=.returned (.string RO)∧Mod No wx w'):=fun wx hm=>by
      rw[hRO];exact H57.o wx (i:Int) (k:Int) round hm hro
     have aEp:Hd (∀wx,Mod No w wx->J1 102 #[Jx S 0,.string TT,.string RO,I here] wx fun e w'=>e=.returned (.tuple #[.agg #[.string S1,.string S2,.string S3,.string S4,I sc],.bool sb])∧Mod No wx w'):=fun wx hm=>by
      have:=H58.o wx tt round here hm hwe;rw[<-IQ,<-hRO]at this;exact this
     clear hgo ht hro hwe IQ hRO H57 H58 H59 hrf hx hp;go_wp2_with fail;refine h57.mono ?_;rintro e w2 ⟨rfl,m2⟩;have HW2:=qH (a2 (HW1.o.1.no m2) (HW1.o.2.mod m2 (fun x=>x)));clear h57 m2 HW1 x0 x3 k10;go_wp2_with fail;refine(aG7.o _ HW2.o.1).mono ?_;rintro e w3 ⟨rfl,m3⟩;have HW3:=qH (a2 (HW2.o.1.no m3) (HW2.o.2.mod m3 (fun x=>x)));clear m3 HW2;go_wp2_with fail;refine(aEp.o _ HW3.o.1).mono ?_;rintro e w4 ⟨rfl,m4⟩;have iq:=qH (a2 (HW3.o.1.no m4) (HW3.o.2.mod m4 (fun x=>x)));clear m4 HW3;have u0:=iq.o.2.cell 0 rfl;have u1:=iq.o.2.cell 1 rfl;have u2:=iq.o.2.cell 2 rfl;have u3:=iq.o.2.cell 3 rfl;have u4:=iq.o.2.cell 4 rfl;have f0:=iq.o.2.free 0;have f1:=iq.o.2.free 1;have f2:=iq.o.2.free 2;have f3:=iq.o.2.free 3;have f4:=iq.o.2.free 4;go_wp2;refine bodyPost_ret (v:=.tuple #[.agg #[.string S1,.string S2,.string S3,.string S4,I sc],.bool sb]) (by simp[results,results64,go_sem,u0,u1,u2,u3,u4]) rfl ?_;refine⟨by rw[HWI.o],?_⟩;exact((((iq.o.1.setCell (a:=J w.heap.size 0) (fun e=>absurd e (Nat.lt_irrefl _)) _).setCell (a:=J w.heap.size 1) (fun e=>absurd e (Nat.lt_irrefl _)) _).setCell (a:=J w.heap.size 2) (fun e=>absurd e (Nat.lt_irrefl _)) _).setCell (a:=J w.heap.size 3) (fun e=>absurd e (Nat.lt_irrefl _)) _).setCell (a:=J w.heap.size 4) (fun e=>absurd e (Nat.lt_irrefl _)) _
    ·have hpb:((x.pair:Int)==(here:Int))=false:=by rw[beq_eq_false_iff_ne];omega
     have rM:=qH hnx;clear hgo hnx hrf hx hp;go_wp2;go_roundg g
     case measure=>omega
     case rel=>exact⟨_,rfl,rM.o,rfl⟩
theorem Q5{last:List Nat}(h:iU v R (n+1) i found last=some r):(¬i<found.length∧r=none)∨(i<found.length∧((∃x,M3.judge v R found i=some (some x)∧r=some x)∨(M3.judge v R found i=some none∧∃f2 l2,y8 R i found last=some (f2,l2)∧iU v R n (i+1) f2 l2=some r))):=by
 rw[iU]at h;split at h
 ·rename_i hc;refine Or.inr ⟨hc,?_⟩;split at h
  ·cases h
  ·rename_i x hj;exact Or.inl ⟨x,hj,(dY h).symm⟩
  ·rename_i hj;split at h
   ·cases h
   ·rename_i f2 l2 hg;exact Or.inr ⟨hj,f2,l2,hg,h⟩
 ·rename_i hc;exact Or.inl ⟨hc,(dY h).symm⟩
theorem find_spec(h:M3.find v=some r):∃R found last,M3.graph v=some R∧R.g.pairs.length<=100000∧R.st<=100000∧gJ R.on R.st 0 [] (replicate R.g.pairs.length 0)=some (found,last)∧iU v R 10000000000000 0 found last=some r:=by
 unfold M3.find at h;split at h
 ·cases h
 ·rename_i R hR;split at h
  ·rename_i hc;split at h
   ·cases h
   ·rename_i found last hb;exact⟨R,found,last,hR,hc.1,hc.2,hb,h⟩
  ·cases h
structure FD(w:World)(v:M2.View)(base S T:Nat)(ka kw kh kd vp c5 vn vs vf vo fo la:Value)(R:M3.GG)(found:List fH)(last:List Nat)(wr:World):Prop where
 sg:SG v base S ka kw kh kd vp c5 vn vs vf vo fo la R found last wr
 md:Mod No w wr
 tb:aG wr T [.string ⟨#[]⟩,.string ⟨#[]⟩,.string ⟨#[]⟩,.string ⟨#[]⟩,I 0] 40
 ff:∀q,fo.ownBlock=some q->w.heap.size<=q
 fl:∀q,la.ownBlock=some q->w.heap.size<=q
section
variable {w:World} {v:M2.View} {base S T:Nat} {ka kw kh kd vp c5 vn vs vf vo fo la:Value} {R:M3.GG} {found:List fH} {last:List Nat} {wr wr':World}
theorem FD.no(h:FD w v base S T ka kw kh kd vp c5 vn vs vf vo fo la R found last wr)(hm:Mod No wr wr'):FD w v base S T ka kw kh kd vp c5 vn vs vf vo fo la R found last wr':=⟨h.sg.no hm,h.md.no hm,h.tb.mod hm (fun x=>x),h.ff,h.fl⟩
theorem FD.on{Qu:Value}{f2:List fH}{l2:List Nat}(h:FD w v base S T ka kw kh kd vp c5 vn vs vf vo fo la R found last wr)(hS:w.heap.size<=S)(ha:Xt wr v base S ka kw kh kd vp c5 vn vs vf vo fo Qu la R f2 l2 wr'):FD w v base S T ka kw kh kd vp c5 vn vs vf vo Qu la R f2 l2 wr':=by
 refine⟨ha.sg,h.md.trans' ha.md (fun k hk e=>?_),h.tb.mod ha.md (fun e=>?_),fun q hq=>?_,h.fl⟩
 ·rcases e with e | e | e
  ·exact absurd hk (by omega)
  ·exact absurd hk (by have:=h.ff k e;omega)
  ·exact absurd hk (by have:=h.fl k e;omega)
 ·rcases e with e | e | e
  ·exact h.tb.diff h.sg.blk (by decide) e
  ·exact h.tb.apart h.sg.MH (by decide) e
  ·exact h.tb.apart h.sg.rla (by decide) e
 ·rcases ha.ff q hq with e | e
  ·exact h.ff q e
  ·exact Nat.le_trans h.md.size e
end
theorem aAQ(w:World)(v:M2.View)(base:Nat)(ka kw kh kd:Value)(hv:VP v base ka kw kh kd w)(hM:M3.find v=some r):J1 35 #[.agg #[ka,kw,kh,kd]] w fun e w'=>e=.returned (wiR r)∧Mod No w w':=by
 obtain⟨R,MO,WC,hG,hpl,hst,hbg,hfg⟩:=find_spec hM;obtain⟨a1,n1,c1,e1⟩:=hv.ah.sl;obtain⟨a2,n2,c2,e2⟩:=hv.wo.sl;obtain⟨a3,n3,c3,e3⟩:=hv.hi.sl;obtain⟨a4,n4,c4,e4⟩:=hv.de.sl;have HE:Hd (ka=.slice a1 n1 c1∧kw=.slice a2 n2 c2∧kh=.slice a3 n3 c3∧kd=.slice a4 n4 c4):=⟨e1,e2,e3,e4⟩;have HV:=qH hv;obtain⟨S1,hS1⟩:=eX (⟨(r.getD H8).x.toArray⟩:ByteArray);obtain⟨S2,hS2⟩:=eX (⟨(r.getD H8).y.toArray⟩:ByteArray);obtain⟨S3,hS3⟩:=eX (⟨(r.getD H8).z1.toArray⟩:ByteArray);obtain⟨S4,hS4⟩:=eX (⟨(r.getD H8).z2.toArray⟩:ByteArray);obtain⟨sc,hsc⟩:=eX ((r.getD H8).c);obtain⟨sb,hsb⟩:=eX r.isSome;have HWI:Hd (wiR r=.tuple #[.agg #[.string S1,.string S2,.string S3,.string S4,I sc],.bool sb]):=by rw[hS1,hS2,hS3,hS4,hsc,hsb];rfl
 have HW0:Hd (wiR none=.tuple #[.agg #[.string ⟨#[]⟩,.string ⟨#[]⟩,.string ⟨#[]⟩,.string ⟨#[]⟩,I 0],.bool false]):=rfl;have HSB:=qH hsb;have HB:Hd (R.g.pairs.length<=100000∧R.st<=100000∧gJ R.on R.st 0 [] (replicate R.g.pairs.length 0)=some (MO,WC)∧iU v R 10000000000000 0 MO WC=some r):=⟨hpl,hst,hbg,hfg⟩;have HG:Hd (∀wx,Mod No w wx->J1 62 #[.agg #[.slice a1 n1 c1,.slice a2 n2 c2,.slice a3 n3 c3,.slice a4 n4 c4]] wx fun e w'=>aCZ R v base ka kw kh kd wx e w'):=fun wx hm=>by
  have:=MG wx v base ka kw kh kd (HV.o.no hm) hG;rw[HE.o.1,HE.o.2.1,HE.o.2.2.1,HE.o.2.2.2]at this ⊢;exact this
 rw[e1,e2,e3,e4];clear hv hM hG hpl hst hbg hfg e1 e2 e3 e4 hS1 hS2 hS3 hS4 hsc hsb;go_enter func35,ntmps35;go_wp2_with fail;have HW1:Hd (Mod No w ((w.alloc (.cells #[.slice a1 n1 c1,.slice a2 n2 c2,.slice a3 n3 c3,.slice a4 n4 c4] 86)).alloc (.cells #[.string ⟨#[]⟩,.string ⟨#[]⟩,.string ⟨#[]⟩,.string ⟨#[]⟩,I 0] 40))∧aG ((w.alloc (.cells #[.slice a1 n1 c1,.slice a2 n2 c2,.slice a3 n3 c3,.slice a4 n4 c4] 86)).alloc (.cells #[.string ⟨#[]⟩,.string ⟨#[]⟩,.string ⟨#[]⟩,.string ⟨#[]⟩,I 0] 40)) (w.heap.size+1) [.string ⟨#[]⟩,.string ⟨#[]⟩,.string ⟨#[]⟩,.string ⟨#[]⟩,I 0] 40):=⟨((Mod.refl _ _).alloc _).alloc _,by
  have:=heap_alloc_new (w.alloc (.cells #[.slice a1 n1 c1,.slice a2 n2 c2,.slice a3 n3 c3,.slice a4 n4 c4] 86)) (Obj.cells #[.string ⟨#[]⟩,.string ⟨#[]⟩,.string ⟨#[]⟩,.string ⟨#[]⟩,I 0] 40)
  simpa [aG] using this⟩
 refine(HG.o _ HW1.o.1).mono ?_;rintro e w1 ⟨m1,vp,vn,vs,vf,vo,rfl,hvp,hpr,hvn,hvs,hvf,hvo⟩;obtain⟨a5,n5,c5,e5⟩:=hpr.sl;obtain⟨a6,n6,c6,e6⟩:=hvn;obtain⟨a7,n7,c7,e7⟩:=hvs.sl;obtain⟨a8,n8,c8,e8⟩:=hvf.sl;obtain⟨a9,n9,c9,e9⟩:=hvo.sl;obtain⟨w2,hw2⟩:∃y,w1.alloc (.cells #[.slice a1 n1 c1,.slice a2 n2 c2,.slice a3 n3 c3,.slice a4 n4 c4,.slice a5 n5 c5,I R.st,.slice a6 n6 c6,.slice a7 n7 c7,.slice a8 n8 c8,.slice a9 n9 c9,.slice none 0 0,.slice none 0 0] 172)=y:=⟨_,rfl⟩;have BF:Mod No w1 w2:=by rw[<-hw2];exact(Mod.refl _ _).alloc _
 have HW2:Hd (SG v base w1.heap.size ka kw kh kd vp (I R.st) vn vs vf vo aH aH R [] [] w2∧Mod No w w2∧aG w2 (w.heap.size+1) [.string ⟨#[]⟩,.string ⟨#[]⟩,.string ⟨#[]⟩,.string ⟨#[]⟩,I 0] 40):=by
  refine⟨⟨?_,hvp.no BF,hpr.no BF,hvs.no BF,hvf.no BF,hvo.no BF,Row.nil _ _,Row.nil _ _,(fun q hq=>by cases hq),(fun q hq=>by cases hq)⟩,(HW1.o.1.no m1).no BF,(HW1.o.2.mod m1 (fun x=>x)).mod BF (fun x=>x)⟩;rw[HE.o.1,HE.o.2.1,HE.o.2.2.1,HE.o.2.2.2,e5,e6,e7,e8,e9,<-hw2];exact heap_alloc_new w1 _
 have h27:=Xu w2 v base w1.heap.size ka kw kh kd vp vn vs vf vo R HW2.o.1 HB.o.1 HB.o.2.1 HB.o.2.2.1;have zf:Hd (w.heap.size<=w1.heap.size∧w.heap.size<=w2.heap.size):=by
  have h1:=(HW1.o.1.no m1).size;have h2:=BF.size;exact⟨h1,by omega⟩
 have HEE:Hd (vp=.slice a5 n5 c5∧vn=.slice a6 n6 c6∧vs=.slice a7 n7 c7∧vf=.slice a8 n8 c8∧vo=.slice a9 n9 c9):=⟨e5,e6,e7,e8,e9⟩;rw[HE.o.1,HE.o.2.1,HE.o.2.2.1,HE.o.2.2.2,e5,e6,e7,e8,e9];have aG8:=qH hw2;clear m1 hvp hpr hvs hvf hvo e5 e6 e7 e8 e9 BF HW1 HG hw2;go_wp2_with fail;rw[aG8.o];refine h27.mono ?_;rintro e w3 ⟨rfl,fo,la,hsg,Ae,hff,hfl⟩;obtain⟨S,hS⟩:=eX w1.heap.size;rw[<-hS]at hsg Ae ⊢;have HS:Hd (w.heap.size<=S):=by rw[hS];exact zf.o.1
 obtain⟨T,hT⟩:=eX (w.heap.size+1);have HT:=qH hT;have HF3:Hd (FD w v base S T ka kw kh kd vp (I R.st) vn vs vf vo fo la R MO WC w3):=by
  refine⟨hsg,HW2.o.2.1.trans' Ae (fun k hk e=>absurd hk (by have:=HS.o;omega)),?_,fun q hq=>Nat.le_trans zf.o.2 (hff q hq),fun q hq=>Nat.le_trans zf.o.2 (hfl q hq)⟩;rw[hT];exact HW2.o.2.2.mod Ae (fun e=>HW2.o.2.2.diff HW2.o.1.blk (by decide) (by rw[e,hS]))
 have HB4:=qH HB.o.2.2.2;rw[<-hT];clear h27 hsg Ae hff hfl hS hT HW2 HB zf;go_wp2_with fail;go_loopg [5] 10000000000000 (fun gh v5 wr=>∃(i:Nat) (found:List fH) (last:List Nat) (fo la:Value),v5=I i∧iU v R gh i found last=some r∧FD w v base S T ka kw kh kd vp (I R.st) vn vs vf vo fo la R found last wr)
 case atStart=>exact⟨0,MO,WC,fo,la,rfl,HB4.o,HF3.o⟩
 case round=>
  clear HB4 HF3;obtain⟨i,found,last,fo,la,rfl,hgo,hI⟩:=hrel;have HI:=qH hI;obtain⟨FN,IU⟩:=eX found.length;obtain⟨fA,fC,uH,-,-⟩:=hI.sg.MH.open IU.symm;have k10:=hI.sg.blk.cell 10 rfl;rw[uH]at k10
  match gk,hgo with
  | 0,hgo=>cases hgo
  | n+1,hgo=>
   rcases Q5 hgo with ⟨hni,hr⟩ | ⟨hni,hcase⟩
   ·have hlt:¬(i:Int)<FN:=by omega
    have HR:=qH hr;have t0:=hI.tb.cell 0 rfl;have t1:=hI.tb.cell 1 rfl;have t2:=hI.tb.cell 2 rfl;have t3:=hI.tb.cell 3 rfl;have t4:=hI.tb.cell 4 rfl;have f0:=hI.tb.free 0;have f1:=hI.tb.free 1;have f2:=hI.tb.free 2;have f3:=hI.tb.free 3;have f4:=hI.tb.free 4;have HT':Hd (¬T<w.heap.size):=qH <| by rw[HT.o];omega
    clear hI hgo IU uH hni hr;go_wp2;refine bodyPost_ret (v:=.tuple #[.agg #[.string ⟨#[]⟩,.string ⟨#[]⟩,.string ⟨#[]⟩,.string ⟨#[]⟩,I 0],.bool false]) (by simp[results,results35,go_sem,t0,t1,t2,t3,t4]) rfl ?_;refine⟨by rw[HR.o];rfl,?_⟩;exact((((HI.o.md.setCell (a:=J T 0) (fun e=>absurd e HT'.o) _).setCell (a:=J T 1) (fun e=>absurd e HT'.o) _).setCell (a:=J T 2) (fun e=>absurd e HT'.o) _).setCell (a:=J T 3) (fun e=>absurd e HT'.o) _).setCell (a:=J T 4) (fun e=>absurd e HT'.o) _
   ·have hlt:(i:Int)<FN:=by omega
    rcases hcase with ⟨x,hj,hr⟩ | ⟨hj,f2,l2,hon,QC⟩
    ·have h28:=Jp wr v base S ka kw kh kd vp (I R.st) vn vs vf vo fo la R found last hI.sg i hj;rw[<-hr,HWI.o]at h28;have aFM:Hd (sb=true):=qH <| by
      rw[HSB.o,hr];rfl
     rw[aFM.o]at h28;clear hI hgo IU uH hni hj hr;go_wp2_with fail;refine h28.mono ?_;rintro e w5 ⟨rfl,m5⟩;have uF:=qH (HI.o.no m5);have t0:=uF.o.tb.aS 0 rfl;have t1:=uF.o.tb.aS 1 rfl;have t2:=uF.o.tb.aS 2 rfl;have t3:=uF.o.tb.aS 3 rfl;have t4:=uF.o.tb.aS 4 rfl;have f0:=uF.o.tb.dQ 0;have f1:=uF.o.tb.dQ 1;have f2:=uF.o.tb.dQ 2;have f3:=uF.o.tb.dQ 3;have f4:=uF.o.tb.dQ 4;have hTn:¬T=w5.heap.size:=by have:=uF.o.tb.lt;omega
     have HT':Hd (¬T<w.heap.size):=qH <| by rw[HT.o];omega
     clear h28 m5 k10 HI;go_wp2;refine bodyPost_ret (v:=.tuple #[.agg #[.string S1,.string S2,.string S3,.string S4,I sc],.bool true]) (by simp[results,results35,go_sem,t0,t1,t2,t3,t4]) rfl ?_;refine⟨by rw[HWI.o,aFM.o],?_⟩;exact(((((uF.o.md.alloc _).setCell (a:=J T 0) (fun e=>absurd e HT'.o) _).setCell (a:=J T 1) (fun e=>absurd e HT'.o) _).setCell (a:=J T 2) (fun e=>absurd e HT'.o) _).setCell (a:=J T 3) (fun e=>absurd e HT'.o) _).setCell (a:=J T 4) (fun e=>absurd e HT'.o) _
    ·have h28:=Jp wr v base S ka kw kh kd vp (I R.st) vn vs vf vo fo la R found last hI.sg i hj;rw[HW0.o]at h28;have hb2:=(Jo hon);obtain⟨-,-,-,-,-,-,-,-,-,hfl,-,-⟩:=hb2;have hi2:i<=20000000000000:=by omega
     have HON:Hd (y8 R i found last=some (f2,l2)∧iU v R n (i+1) f2 l2=some r):=⟨hon,QC⟩;clear hI hgo IU uH hni hj hon QC hfl;go_wp2_with fail;refine h28.mono ?_;rintro e w5 ⟨rfl,m5⟩;have BD:Hd (FD w v base S T ka kw kh kd vp (I R.st) vn vs vf vo fo la R found last (w5.alloc (.cells #[.string ⟨#[]⟩,.string ⟨#[]⟩,.string ⟨#[]⟩,.string ⟨#[]⟩,I 0] 40))):=(HI.o.no m5).no ((Mod.refl _ _).alloc _);clear h28 m5 k10 HI;go_wp2_with fail;generalize w5.alloc (.cells #[.string ⟨#[]⟩,.string ⟨#[]⟩,.string ⟨#[]⟩,.string ⟨#[]⟩,I 0] 40)=w6 at BD ⊢;refine(aAM w6 v base S ka kw kh kd vp (I R.st) vn vs vf vo fo la R found last BD.o.sg i HON.o.1).mono ?_;rintro e w7 ⟨rfl,Qu,hac⟩;have AY:=qH (BD.o.on HS.o hac);clear hac BD;go_wp2;go_roundg n
     case measure=>omega
     case rel=>exact⟨i+1,f2,l2,Qu,la,by go_num,HON.o.2,AY.o⟩
end
section
open Go.Shelf
def aAR:Go.Shelf.Ren:=⟨fun | 129=>149 | 171=>39 | 243=>66 | 246=>104 | 283=>133 | 284=>134 | 285=>135 | 286=>136 | 317=>148 | 318=>150 | 319=>151 | 320=>152 | 337=>158 | 338=>159 | n=>n,fun | 0=>0 | 2=>2 | 3=>3 | 4=>4 | 5=>5 | 9=>9 | 20=>20 | 37=>100 | 46=>276 | 51=>127 | 53=>261 | 171=>260 | 173=>264 | 212=>274 | 213=>275 | 232=>282 | 233=>283 | n=>n,fun | 17=>0 | 18=>1 | 19=>2 | n=>n⟩
theorem aFN:Go.Proofs.LaysM.n171 prog aAR:={
 mixed:=by kernel_rfl
 f129:=func149.trans (congrArg some (by kernel_rfl))
 f171:=func39.trans (congrArg some (by kernel_rfl))
 f243:=func66.trans (congrArg some (by kernel_rfl))
 f246:=func104.trans (congrArg some (by kernel_rfl))
 f283:=func133.trans (congrArg some (by kernel_rfl))
 f284:=func134.trans (congrArg some (by kernel_rfl))
 f285:=func135.trans (congrArg some (by kernel_rfl))
 f286:=func136.trans (congrArg some (by kernel_rfl))
 f317:=func148.trans (congrArg some (by kernel_rfl))
 f318:=func150.trans (congrArg some (by kernel_rfl))
 f319:=func151.trans (congrArg some (by kernel_rfl))
 f320:=func152.trans (congrArg some (by kernel_rfl))
 f337:=func158.trans (congrArg some (by kernel_rfl))
 f338:=func159.trans (congrArg some (by kernel_rfl))
 t0:=underlying0
 a0:=isAgg0
 z0:=sizeOf0
 v0:=zeroValue0
 t2:=underlying2
 a2:=isAgg2
 z2:=sizeOf2
 v2:=zeroValue2
 t3:=underlying3
 a3:=isAgg3
 z3:=sizeOf3
 v3:=zeroValue3
 t4:=underlying4
 a4:=isAgg4
 z4:=sizeOf4
 v4:=zeroValue4
 t5:=underlying5
 a5:=isAgg5
 z5:=sizeOf5
 v5:=zeroValue5
 t9:=underlying9
 a9:=isAgg9
 z9:=sizeOf9
 v9:=zeroValue9
 t20:=underlying20
 a20:=isAgg20
 z20:=sizeOf20
 v20:=zeroValue20
 t37:=underlying100
 a37:=isAgg100
 z37:=sizeOf100
 v37:=zeroValue100
 t46:=underlying276
 a46:=isAgg276
 z46:=sizeOf276
 v46:=zeroValue276
 t51:=underlying127
 a51:=isAgg127
 z51:=sizeOf127
 v51:=zeroValue127
 t53:=underlying261
 a53:=isAgg261
 z53:=sizeOf261
 v53:=zeroValue261
 t171:=underlying260
 a171:=isAgg260
 z171:=sizeOf260
 v171:=zeroValue260
 t173:=underlying264
 a173:=isAgg264
 z173:=sizeOf264
 v173:=zeroValue264
 t212:=underlying274
 a212:=isAgg274
 z212:=sizeOf274
 v212:=zeroValue274
 t213:=underlying275
 a213:=isAgg275
 z213:=sizeOf275
 t232:=underlying282
 a232:=isAgg282
 z232:=sizeOf282
 v232:=zeroValue282
 t233:=underlying283
 a233:=isAgg283
 z233:=sizeOf283
 v233:=zeroValue283
 g17:=by kernel_rfl
 g18:=by kernel_rfl
 g19:=by kernel_rfl
 i0:=by kernel_rfl
 i2:=by kernel_rfl
 i3:=by kernel_rfl
 i4:=by kernel_rfl
 i5:=by kernel_rfl
 i9:=by kernel_rfl
 i20:=by kernel_rfl
 i37:=by kernel_rfl
 i46:=by kernel_rfl
 i51:=by kernel_rfl
 i53:=by kernel_rfl
 i171:=by kernel_rfl
 i173:=by kernel_rfl
 i212:=by kernel_rfl
 i232:=by kernel_rfl
 i233:=by kernel_rfl
 m17:=by kernel_rfl
 m18:=by kernel_rfl
 m19:=by kernel_rfl }
open Go.RowKit Go.Sort Go.Lib in
theorem qQ (n : Int) (h0 : -9223372036854775808 <= n) (h1 : n <= 9223372036854775807) (w : World) (htab : Lib.TabIs prog w "internal/strconv.uint64pow10" .u64 Lib.pow10Tab):J1 39 #[I n] w fun e w'=>e=.returned (.string ⟨(Lib.itoa n).toArray⟩)∧∃k os,w'=grow (w.drewN k) os:=Any.strconv_Itoa aFN n h0 h1 w htab
end
namespace Tx
open Go.RowKit
variable {w w':World} {n cap B:Nat} {v:Value} {l:List UInt8}
abbrev uI : String := "internal/strconv.uint64pow10"
theorem uJ(w:World)(k:Nat)(os:Array Obj):w.grownBy (Sort.grow (w.drewN k) os) none:=⟨rfl,rfl,rfl,by simp[Sort.grow],fun i hi _=>by
  show (w.heap++os)[i]?=_
  rw[Array.getElem?_append_left hi]⟩
def BO:Enc M2.iL:=⟨104,9,fun s=>[.string ⟨s.en.toArray⟩,.string ⟨(s.sd.getD 0 []).toArray⟩,.string ⟨(s.sd.getD 1 []).toArray⟩,.string ⟨(s.sd.getD 2 []).toArray⟩,.string ⟨(s.sd.getD 3 []).toArray⟩,I ((s.nx.getD 0 0:Nat):Int),I ((s.nx.getD 1 0:Nat):Int),I ((s.nx.getD 2 0:Nat):Int),I ((s.nx.getD 3 0:Nat):Int)],fun _=>rfl⟩
def nexts(q:M2.iL):List Nat:=[q.nx.getD 0 0,q.nx.getD 1 0,q.nx.getD 2 0,q.nx.getD 3 0]
def JP(q:M2.iL):List (List UInt8):=[q.sd.getD 0 [],q.sd.getD 1 [],q.sd.getD 2 [],q.sd.getD 3 []]
def Within(aC:List M2.iL):Prop:=∀q∈aC,∀t∈nexts q,t<200
theorem aAS{g:Nat}{aC:List M2.iL}(h:Row BO w (Jn g n cap) aC)(i:Nat)(q:M2.iL)(hq:aC[i]?=some q):∃(S0 S1 S2 S3 S4:ByteArray) (N0 N1 N2 N3:Nat),(S0=⟨q.en.toArray⟩∧[S1,S2,S3,S4]=(JP q).map (fun l=>(⟨l.toArray⟩:ByteArray))∧[N0,N1,N2,N3]=nexts q) ∧(w.cell? (J g (i*9))=some (.string S0)∧w.cell? (J g (i*9+1))=some (.string S1)∧w.cell? (J g (i*9+2))=some (.string S2)∧w.cell? (J g (i*9+3))=some (.string S3) ∧w.cell? (J g (i*9+4))=some (.string S4)∧w.cell? (J g (i*9+5))=some (I N0)∧w.cell? (J g (i*9+6))=some (I N1) ∧w.cell? (J g (i*9+7))=some (I N2)∧w.cell? (J g (i*9+8))=some (I N3)):=⟨_,_,_,_,_,_,_,_,_,⟨rfl,rfl,rfl⟩,h.cell i 0 hq rfl,h.cell i 1 hq rfl,h.cell i 2 hq rfl,h.cell i 3 hq rfl,h.cell i 4 hq rfl,h.cell i 5 hq rfl,h.cell i 6 hq rfl,h.cell i 7 hq rfl,h.cell i 8 hq rfl⟩
theorem aO{H:Nat}{a:Array Value}{t:Nat}{fr:Nat × Nat}(h:w.heap[H]?=some (.cells a t fr))(j:Nat)(v:Value)(hv:a[j]?=some v):w.cell? (J H j)=some v:=by
 simp[World.cell?,h,hv]
abbrev Buf(B:Nat)(w:World)(v:Value)(l:List UInt8):Prop:=w.ownsRow B 5 1 v l.length (Lib.byteCells l)
theorem Buf.more{m:List UInt8}(h:w.ownsRow B 5 1 v (l.length+m.length) (Lib.byteCells l++Lib.byteCells m)):Buf B w v (l++m):=by
 show w.ownsRow B 5 1 v (l++m).length (Lib.byteCells (l++m));rw[length_append,Lib.byteCells_append];exact h
theorem strCells_eq(s:ByteArray):Lib.strCells s=Lib.byteCells s.data.toList:=by
 simp[Lib.strCells,Lib.byteCells]
theorem size_data(s:ByteArray):s.size=s.data.toList.length:=by
 show s.data.size=_;simp
def D6(w w':World):Prop:=∀(H:Nat) (a:Array Value) (fr:Nat × Nat),w.heap[H]?=some (.cells a 104 fr)->w'.heap[H]?=some (.cells a 104 fr)
theorem D6.trans{a b c:World}(h:D6 a b)(k:D6 b c):D6 a c:=fun H x fr hx=>k H x fr (h H x fr hx)
theorem D6.alloc(w:World)(o:Obj):D6 w (w.alloc o):=fun H a fr h=>by
 rw[Below.heap_alloc _ _ _ (Array.getElem?_eq_some_iff.1 h).1];exact h
theorem D6.grown{xs:List Value}(ho:w.ownsRow B 5 1 v n xs)(hg:w.grownBy w' v.ownBlock):D6 w w':=fun H a fr h=>by
 rw[hg.block H (Array.getElem?_eq_some_iff.1 h).1 ?_]
 ·exact h
 ·intro e;rcases ho.2 with ⟨rfl,_⟩ | ⟨g,cap,cur,rfl,_,hgg,_⟩
  ·cases e
  ·cases e;rw[h]at hgg;cases hgg
theorem D6.none(hg:w.grownBy w' none):D6 w w':=fun H a fr h=>(hg.block H (Array.getElem?_eq_some_iff.1 h).1 (by simp)).trans h
theorem ji(B:Nat)(v:Value)(l:List UInt8)(s:ByteArray)(w:World)(hown:Buf B w v l)(hB:B<=w.heap.size)(hlim:l.length+s.size+1<=100000000):J1 38 #[v,.string s] w fun e w'=>∃v',e=.returned v'∧Buf B w' v' (l++dA s.data.toList)∧Below B w w'∧D6 w w':=by
 obtain⟨i0,af,hz0,hz1,hz2⟩:=info_parts aIV;have hvb:=fun k h=>(hown.lt k h).1
 by_cases h0:s.size=0
 ·have hs:s.toList.isEmpty=true:=by rw[fG];exact decide_eq_true h0
  have HT:Hd (dA s.data.toList=[45]):=qH <| by
   unfold dA;rw[aP (eq_nil_of_length_eq_zero (by rw[<-size_data];exact h0))]
  go_enter func38,ntmps38;go_wp2_with (at_builtin;refine wpList_append_lies _ rfl _ _ 100 rfl B 5 i0 _ 1 1 underlying100 af hz0 hz1 hz2 rfl (by omega) v l.length (Lib.byteCells l) rfl (hown.alloc _) (J w.heap.size 0) 1 1 [.int .u8 45] rfl rfl (World.news_of_block (cs:=#[.int .u8 45]) (t:=5) (fr:=(0,0)) (heap_alloc_new w _)) (by simp[Value.oneCell']) (by omega) (by unfold maxLen;omega) (by omega) (by simp;omega) (w.heap.size+1) (by simp) ?_);intro gg cap w1 hown1 hgrow hat fJ;have HO:Hd (Buf B w1 (Jn gg (l.length+1) cap) (l++dA s.data.toList)):=by
   show Buf B w1 _ (l++dA s.data.toList);rw[HT.o];exact Buf.more (m:=[45]) hown1
  have HB:=qH (((Below.refl _ _).alloc hB _).grown hgrow (by simp;omega) hvb);have HK:=qH ((D6.alloc w _).trans (D6.grown (hown.alloc _) hgrow));clear hown1 hgrow hat fJ;go_wp2;go_ret;exact⟨_,rfl,HO.o,HB.o,HK.o⟩
 ·have hs:s.toList.isEmpty=false:=by rw[fG];exact lT h0
  have HT:Hd (dA s.data.toList=s.data.toList):=qH <| by
   unfold dA;rw[aU (fun e=>h0 (by rw[size_data,e];rfl))]
  go_enter func38,ntmps38;go_wp2_with (at_builtin;refine Lib.wpList_append_own_string _ rfl _ _ 100 9 rfl B 5 i0 underlying100 underlying9 af hz0 hz1 hz2 v l.length (Lib.byteCells l) rfl hown s rfl (by unfold maxLen;omega) (by omega) hB ?_);intro v' w1 hown1 hgrow hat;have HO:Hd (Buf B w1 v' (l++dA s.data.toList)):=by
   show Buf B w1 _ (l++dA s.data.toList);rw[HT.o];rw[strCells_eq,size_data]at hown1;exact Buf.more hown1
  have HB:=qH ((Below.refl _ _).grown hgrow hB hvb);have HK:=qH (D6.grown hown hgrow);clear hown1 hgrow hat;go_wp2;go_ret;exact⟨_,rfl,HO.o,HB.o,HK.o⟩
theorem rZ(l:List UInt8):l.length<=(dA l).length∧1<=(dA l).length:=by
 unfold dA;split
 ·rename_i h;rw[h];simp
 ·rename_i h;have:0<l.length:=length_pos_iff.2 h;omega
theorem Q7(aC:List M2.iL)(i:Nat)(q:M2.iL)(h:aC[i]?=some q):bV (aC.take (i+1))=bV (aC.take i)++lineText q∧(bV (aC.take i)).length+(lineText q).length<=(bV aC).length:=by
 have e:bV (aC.take (i+1))=bV (aC.take i)++lineText q:=by
  rw[take_add_one,h];simp[bV]
 refine⟨e,?_⟩;have:bV aC=bV (aC.take (i+1))++bV (aC.drop (i+1)):=by
  unfold bV;rw[<-flatMap_append,take_append_drop]
 rw[this,e];simp
theorem lN{w0 w1:World}{c:UInt8}{gg:Nat}(h:w1.ownsRow B 5 1 (Jn gg (l.length+1) cap) (l.length+1) (Lib.byteCells l++[.int .u8 c.toNat]))(ho:Buf B w0 v l)(o:Obj)(hg:(w0.alloc o).grownBy w1 v.ownBlock)(hB:B<=w0.heap.size):Buf B w1 (Jn gg (l.length+1) cap) (l++[c])∧Below B w0 w1∧D6 w0 w1:=⟨Buf.more (m:=[c]) h,((Below.refl _ _).alloc hB _).grown hg (by simp;omega) (fun k hk=>(ho.lt k hk).1),(D6.alloc w0 o).trans (D6.grown (ho.alloc o) hg)⟩
theorem aAT(m:Nat)(v:Value)(aC:List M2.iL)(w:World)(hm:w.cell? (J m 0)=some v)(hst:Row BO w v aC)(h0:0<aC.length)(hl:aC.length<=200)(hin:Within aC)(hlim:(bV aC).length<=1048576)
  (htab:Lib.TabIs prog w uI .u64 Lib.pow10Tab):J1 14 #[Jx m 0] w fun e w'=>e=.returned (.string ⟨(bV aC).toArray⟩)∧Below w.heap.size w w':=by
 obtain⟨i0,af,hz0,hz1,hz2⟩:=info_parts aIV;obtain⟨g,cap,rfl,hg,hcap⟩:=hst.form h0;obtain⟨n,hn⟩:=eX aC.length;rw[<-hn]at h0 hl hcap hst hm;have HN:=qH hn;have HT:=qH (Lib.tabBelow_of_tabIs htab);have HIN:=qH hin;have aG9:=qH hlim;have HST:=qH hst;clear hn hin hst hlim htab;go_enter func14,ntmps14;go_wp2_with fail
 go_loopw [3,16] (fun vv ii wr=>∃(i:Nat),i<=n∧ii=I i∧Buf w.heap.size wr vv (bV (aC.take i))∧Below w.heap.size w wr) (fun _ ii _=>n-(intOf ii).toNat)
 case atStart=>exact⟨0,by omega,rfl,World.ownsRow_nil _ _ _ _,Below.refl _ _⟩
 case round=>
  obtain⟨i,hi,rfl,hbuf,hb⟩:=hrel;have aFO:=hb.size;by_cases hlt:i<n
  ·obtain⟨q,hq⟩:∃q,aC[i]?=some q:=⟨aC[i]'(by have:=HN.o;omega),bG _⟩;obtain⟨S0,S1,S2,S3,S4,N0,N1,N2,N3,hS,a0,a1,a2,a3,a4,a5,a6,a7,a8⟩:=aAS (HST.o.no (Mod.of_below hb)) i q hq;obtain⟨hta,htl⟩:=Q7 aC i q hq;obtain⟨A,hA⟩:=eX (Z8 S0.data.toList S1.data.toList S2.data.toList S3.data.toList S4.data.toList N0 N1 N2 N3);have hlA:lineText q=A 4++[10]:=by
    obtain⟨e1,e2,e3⟩:=hS;simp only[JP,nexts,map_cons,map_nil,List.cons.injEq,and_true]at e2 e3;obtain⟨f1,f2,f3,f4⟩:=e2;obtain⟨g1,g2,g3,g4⟩:=e3;rw[hA,e1,f1,f2,f3,f4,g1,g2,g3,g4];rfl
   have A0:A 0=dA S0.data.toList:=by rw[hA];rfl
   have AJ:∀j,j<4->A (j+1)=A j++dX ([S1,S2,S3,S4].getD j ⟨#[]⟩).data.toList ([N0,N1,N2,N3].getD j 0)∧[N0,N1,N2,N3].getD j 0<200:=fun j hj=>by
    have hmm:=HIN.o q (iI hq);rw[<-hS.2.2]at hmm;have hk:∀k∈[N0,N1,N2,N3],k<200:=fun k h=>by have:=hmm k h;have:=HN.o;omega
    rw[hA]
    match j,hj with
    | 0,_=>exact⟨rfl,hk N0 (by simp)⟩
    | 1,_=>exact⟨rfl,hk N1 (by simp)⟩
    | 2,_=>exact⟨rfl,hk N2 (by simp)⟩
    | 3,_=>exact⟨rfl,hk N3 (by simp)⟩
   obtain⟨L,hL⟩:=eX (bV (aC.take i));rw[<-hL]at hbuf hta htl;have hlen:L.length+(A 4).length+1<=1048576:=by
    rw[hlA,length_append]at htl;have:=aG9.o;simp at htl;omega
   have lj:∀j,j<4->(A (j+1)).length=(A j).length+((dA ([S1,S2,S3,S4].getD j ⟨#[]⟩).data.toList).length+2+(Lib.decDigits ([N0,N1,N2,N3].getD j 0)).length):=fun j hj=>by rw[(AJ j hj).1,length_append];simp[dX];omega
   have w0:=(rZ S0.data.toList).1;rw[<-size_data,<-A0]at w0;have b1:(A 1).length=_:=lj 0 (by omega);have b2:(A 2).length=_:=lj 1 (by omega);have b3:(A 3).length=_:=lj 2 (by omega);have b4:(A 4).length=_:=lj 3 (by omega);have HBN:Hd (∀j,j<4->L.length+(A j).length+(dA ([S1,S2,S3,S4].getD j ⟨#[]⟩).data.toList).length+2+(Lib.decDigits ([N0,N1,N2,N3].getD j 0)).length<=1048576):=fun j hj=>by
    match j,hj with
    | 0,_=>omega
    | 1,_=>omega
    | 2,_=>omega
    | 3,_=>omega
   have HA:=qH (And.intro A0 AJ);have ny:Hd (bV (aC.take (i+1))=L++A 4++[10]):=qH <| by
    rw[hta,hlA,append_assoc]
   have HLEN:=qH hlen;have HLL:=qH hL;have b0:L.length+S0.size+1<=100000000:=by omega
   have aHa:=qH hbuf;have HQQ:=qH hq;clear hA hlA A0 AJ lj w0 b1 b2 b3 b4 hta htl hlen hS hq hL;have haw:=fun o=>ji w.heap.size u3 L S0 (wr.alloc o) (hbuf.alloc o) (by simp;omega) b0
   clear hbuf;go_wp2_with fail;refine(haw _).mono ?_;rintro e w1 ⟨v1,rfl,nI,hb1,hk1⟩;clear haw;obtain⟨H,hH⟩:=eX wr.heap.size;have y7:w1.heap[H]?=some (.cells #[.string S0,.string S1,.string S2,.string S3,.string S4,I N0,I N1,I N2,I N3] 104 (0,0)):=by
    rw[hH];exact hk1 _ _ _ (heap_alloc_new wr _)
   have hB1:=(hb.alloc (by omega) _).trans hb1;rw[<-hH];have q1:w1.cell? (J H 1)=some (.string S1):=aO y7 1 _ rfl;have q2:w1.cell? (J H 2)=some (.string S2):=aO y7 2 _ rfl;have q3:w1.cell? (J H 3)=some (.string S3):=aO y7 3 _ rfl;have q4:w1.cell? (J H 4)=some (.string S4):=aO y7 4 _ rfl;have HQB:=qH y7;have HB1:Hd (Buf w.heap.size w1 v1 (L++A 0)):=qH <| by
    rw[HA.o.1];exact nI
   have AP:=qH hB1;clear y7 hB1 nI hb1 hk1 hH hm a0 a1 a2 a3 a4 a5 a6 a7 a8;go_wp2;clear q1 q2 q3 q4
   go_loopw [3,26] (fun vv jj wx=>∃(j:Nat),j<=4∧jj=I j∧Buf w.heap.size wx vv (L++A j)∧wx.heap[H]?=some (.cells #[.string S0,.string S1,.string S2,.string S3,.string S4,I N0,I N1,I N2,I N3] 104 (0,0))∧Below w.heap.size w wx) (fun _ jj _=>4-(intOf jj).toNat)
   case atStart=>exact⟨0,by omega,rfl,HB1.o,HQB.o,AP.o⟩
   case round=>
    obtain⟨j,hj,rfl,hbuf,y7,hbl⟩:=hrel;clear HB1 HQB AP aHa;have hsx:=hbl.size;by_cases hj4:j<4
    ·have hji:(j:Int)<4:=by omega
     have hix:=aJ2 j hj4 S1 S2 S3 S4;have hcn:∀wx:World,wx.heap[H]?=some (.cells #[.string S0,.string S1,.string S2,.string S3,.string S4,I N0,I N1,I N2,I N3] 104 (0,0))->wx.cell? (J H (5+j))=some (I (([N0,N1,N2,N3].getD j 0:Nat):Int)):=fun wx h=>by
      match j,hj4 with
      | 0,_=>exact aO h 5 _ rfl
      | 1,_=>exact aO h 6 _ rfl
      | 2,_=>exact aO h 7 _ rfl
      | 3,_=>exact aO h 8 _ rfl
     have hbn:=HBN.o j hj4;have hnn:=(HA.o.2 j hj4).2;obtain⟨X,hX⟩:=eX ([S1,S2,S3,S4].getD j ⟨#[]⟩);obtain⟨M,hM⟩:=eX ([N0,N1,N2,N3].getD j 0);rw[<-hX]at hix hbn;rw[<-hM]at hcn hbn hnn;have HXM:=qH (a2 hX hM);clear hX hM;have hwl:=rZ X.data.toList;rw[<-size_data]at hwl;obtain⟨l0,hl0⟩:=eX (L++A j);rw[<-hl0]at hbuf;have hll:l0.length=L.length+(A j).length:=by rw[hl0,length_append]
     rw[<-hll]at hbn;have Ya:=qH hl0;clear hl0 hll;go_wp2_with (at_builtin;refine wpList_append_lies _ rfl _ _ 100 rfl w.heap.size 5 i0 _ 1 1 underlying100 af hz0 hz1 hz2 rfl (by omega) u3 l0.length (Lib.byteCells l0) rfl (hbuf.alloc _) (J wr.heap.size 0) 1 1 [.int .u8 32] rfl rfl (World.news_of_block (cs:=#[.int .u8 32]) (t:=5) (fr:=(0,0)) (heap_alloc_new wr _)) (by simp[Value.oneCell']) (by omega) (by unfold maxLen;omega) (by omega) (by simp;omega) (wr.heap.size+1) (by simp) ?_);intro g1 cap1 x1 ho1 hg1 _ _;obtain⟨nI,hb1,hk1⟩:=lN (c:=32) ho1 hbuf _ hg1 hsx;have hs1:=hb1.size;clear ho1 hg1 hbuf;have hl1:(l0++[32]).length=l0.length+1:=by simp
     have haw:=ji w.heap.size _ (l0++[32]) X x1 nI (by omega) (by rw[hl1];omega);have U2:Hd _:=hk1 _ _ _ y7;have AP:Hd _:=hbl.trans hb1;clear nI hb1 hk1 hl1 y7 hbl;go_wp2_with fail;refine haw.mono ?_;rintro e x2 ⟨v2,rfl,lQ,hb2,hk2⟩;have hs2:=hb2.size;obtain⟨l2,hl2⟩:=eX (l0++[32]++dA X.data.toList);rw[<-hl2]at lQ;have aEr:l0.length+1+(dA X.data.toList).length=l2.length:=by rw[hl2];simp;omega
     have HL2:=qH hl2;have Xx:Hd _:=hk2 _ _ _ U2.o;have He:Hd _:=AP.o.trans hb2;clear haw hl2 hb2 hk2 U2 AP;go_wp2_with (at_builtin;refine wpList_append_lies _ rfl _ _ 100 rfl w.heap.size 5 i0 _ 1 1 underlying100 af hz0 hz1 hz2 rfl (by omega) v2 l2.length (Lib.byteCells l2) rfl (lQ.alloc _) (J x2.heap.size 0) 1 1 [.int .u8 58] rfl rfl (World.news_of_block (cs:=#[.int .u8 58]) (t:=5) (fr:=(0,0)) (heap_alloc_new x2 _)) (by simp[Value.oneCell']) (by omega) (by unfold maxLen;omega) (by omega) (by simp;omega) (x2.heap.size+1) (by simp) ?_);intro g3 cap3 x3 ho3 hg3 _ _;obtain⟨wF,hb3,hk3⟩:=lN (c:=58) ho3 lQ _ hg3 (by omega);have hs3:=hb3.size;have yT:=hk3 _ _ _ Xx.o;have yU:=He.o.trans hb3;have cn:x3.cell? (J H (5+j))=some (I M):=hcn _ yT;have hit:=qQ (M:Int) (by omega) (by omega) x3 (HT.o.on yU).here;rw[Lib.itoa_nonneg]at hit;have HQ3:Hd _:=yT;have Hf:Hd _:=yU;clear ho3 hg3 lQ hb3 hk3 yT yU Xx He;go_wp2_with fail;refine hit.mono ?_;rintro e x4 ⟨rfl,kk,os,hx4⟩;have hgr:=uJ x3 kk os;rw[<-hx4]at hgr;have lS:Buf w.heap.size x4 (Jn g3 (l2.length+1) cap3) (l2++[58]):=wF.kept hgr (Or.inr (by simp[Value.ownBlock]));have hb4:Below w.heap.size x3 x4:=(Below.refl _ _).grown hgr (by omega) (fun k hk=>by cases hk);have hs4:=hb4.size;have HQ4:Hd _:=D6.none hgr _ _ _ HQ3.o;have Hl:Hd _:=Hf.o.trans hb4;have hl4:(l2++[58]).length=l2.length+1:=by simp
     have uK:(⟨(Lib.decDigits M).toArray⟩:ByteArray).size=(Lib.decDigits M).length:=rfl;have hvb:=fun k h=>(lS.lt k h).1
     clear hit hx4 hgr wF hb4 HQ3 Hf cn;have hm1:(l2++[58]).length+(⟨(Lib.decDigits M).toArray⟩:ByteArray).size<=maxLen:=by rw[hl4,uK];unfold maxLen;omega
     have hm2:(l2++[58]).length+(⟨(Lib.decDigits M).toArray⟩:ByteArray).size<=140737488355328:=by rw[hl4,uK];omega
     have HS4:Hd _:=uK;have hB4:w.heap.size<=x4.heap.size:=by omega
     clear uK hl4;go_wp2_with (at_builtin;refine Lib.wpList_append_own_string _ rfl _ _ 100 9 rfl w.heap.size 5 i0 underlying100 underlying9 af hz0 hz1 hz2 (Jn g3 (l2.length+1) cap3) (l2++[58]).length (Lib.byteCells (l2++[58])) rfl lS ⟨(Lib.decDigits M).toArray⟩ rfl hm1 hm2 hB4 ?_);intro v5 x5 U3 hg5 _;have Qv:Hd (Buf w.heap.size x5 v5 (L++A (j+1))):=qH <| by
      rw[Lib.strCells_toArray]at U3;have:=Buf.more (l:=l2++[58]) (m:=Lib.decDigits M) (by rw[length_append];exact U3);rw[HL2.o,Ya.o]at this;rw[(HA.o.2 j hj4).1,<-HXM.o.1,<-HXM.o.2];simpa [dX,append_assoc] using this
     have U4:Hd _:=D6.grown lS hg5 _ _ _ HQ4.o;have MP:Hd _:=Hl.o.grown hg5 (by omega) hvb;clear U3 hg5 lS HQ4 Hl hvb hm1 hm2;go_wp2
     go_roundw
     case rel=>exact⟨j+1,by omega,by go_num,Qv.o,U4.o,MP.o⟩
     case measure=>simp[intOf];omega
    ·obtain rfl:j=4:=by omega
     have hlen:=HLEN.o;obtain⟨l0,hl0⟩:=eX (L++A 4);rw[<-hl0]at hbuf;have hll:l0.length=L.length+(A 4).length:=by rw[hl0,length_append]
     rw[<-hll]at hlen;have Ya:=qH hl0;clear hl0 hll;go_wp2_with (at_builtin;refine wpList_append_lies _ rfl _ _ 100 rfl w.heap.size 5 i0 _ 1 1 underlying100 af hz0 hz1 hz2 rfl (by omega) u3 l0.length (Lib.byteCells l0) rfl (hbuf.alloc _) (J wr.heap.size 0) 1 1 [.int .u8 10] rfl rfl (World.news_of_block (cs:=#[.int .u8 10]) (t:=5) (fr:=(0,0)) (heap_alloc_new wr _)) (by simp[Value.oneCell']) (by omega) (by unfold maxLen;omega) (by omega) (by simp;omega) (wr.heap.size+1) (by simp) ?_);intro g1 cap1 x1 ho1 hg1 _ _;obtain⟨nI,hb1,-⟩:=lN (c:=10) ho1 hbuf _ hg1 hsx;have Qv:Hd (Buf w.heap.size x1 (Jn g1 (l0.length+1) cap1) (bV (aC.take (i+1)))):=by
      show Buf w.heap.size x1 _ (bV (aC.take (i+1)));rw[ny.o,<-Ya.o];exact nI
     have MP:Hd _:=hbl.trans hb1;clear ho1 hg1 nI hb1 hbuf y7 hbl;go_wp2
     go_roundw
     case rel=>exact⟨i+1,by omega,by go_num,Qv.o,MP.o⟩
     case measure=>simp[intOf];omega
  ·obtain rfl:i=n:=by omega
   have HTE:Hd (bV (aC.take i)=bV aC):=qH <| by
    rw[HN.o,take_length]
   rw[HTE.o]at hbuf;have hpos:0<(bV aC).length:=by
    obtain⟨q,hq⟩:∃q,aC[0]?=some q:=⟨aC[0]'(by have:=HN.o;omega),bG _⟩;have:=(Q7 aC 0 q hq).2;have h2:0<(lineText q).length:=by unfold lineText;simp
    omega
   obtain⟨T,hT⟩:=eX (bV aC);rw[<-hT]at hbuf hpos;have Xm:=qH hT;clear hT;rcases hbuf.2 with ⟨-,h00⟩ | ⟨gg,cc,cur,rfl,-,-,-,-,-,-⟩
   ·omega
   ·have hcv:=run_convert_bytes_back (P:=prog) wr 100 9 5 (J gg 0) cc T underlying100 underlying5 underlying9 (fun j hj=>hbuf.cells (g:=gg) rfl j _ (by simp[Lib.byteCells,hj]));go_wp2;go_ret;exact⟨by rw[<-Xm.o];rfl,hb⟩
end Tx
section
open Go.RowKit
attribute [local go_sem ↓] Go.wp_at_zero Go.wp_at_succ
theorem aIQ:(prog.info? 104).map (fun i=>(i.zero,i.size,i.bytes))=some (some (.agg #[.string ⟨#[]⟩,.string ⟨#[]⟩,.string ⟨#[]⟩,.string ⟨#[]⟩,.string ⟨#[]⟩,I 0,I 0,I 0,I 0]),9,112):=by kernel_rfl
def lC(w:World)(m:Nat)(aC:List iL):Prop:=∃v,aG w m [v] 99∧Row BO w v aC
theorem lC.no{w w':World}{m:Nat}{aC:List iL}(h:lC w m aC)(hm:Mod No w w'):lC w' m aC:=by
 obtain⟨v,h1,h2⟩:=h;exact⟨v,h1.mod hm (fun x=>x),h2.no hm⟩
theorem Ho(w:World)(vt:Value)(aC:List iL)(h:Row DZ w vt aC)(hl:aC.length<=1000):J1 34 #[vt] w fun e w'=>∃m,e=.returned (Jx m 0)∧lC w' m aC∧Mod No w w':=by
 obtain⟨n,hn⟩:=eX aC.length;obtain⟨ta,tc,evt,-,-⟩:=h.open hn.symm;rw[<-hn]at hl;have HN:=qH hn;have HR:=qH h;have HV:=qH evt;rw[evt];clear h hn evt;obtain⟨i0,af,hz0,hz1,hz2⟩:=info_parts aIQ;go_enter func34,ntmps34;go_wp2_with fail;have HW1:Hd (aG (w.alloc (.cells #[aH] 99)) w.heap.size [aH] 99∧Mod No w (w.alloc (.cells #[aH] 99))):=⟨heap_alloc_new w _,(Mod.refl _ _).alloc _⟩;generalize w.alloc (.cells #[aH] 99)=W1 at HW1 ⊢;obtain⟨M,hM⟩:∃M,w.heap.size=M:=⟨_,rfl⟩;have HM:=qH hM;rw[hM]at HW1 ⊢;clear hM;go_loopg [10] n (fun gh v10 wr=>∃(i:Nat) (v:Value),i<=n∧gh=n-i∧v10=I i∧aG wr M [v] 99∧Row BO wr v (aC.take i)∧(∀q,v.ownBlock=some q->M<=q)∧Mod No w wr)
 case atStart=>exact⟨0,aH,by omega,by omega,rfl,HW1.o.1,Row.nil _ _,(fun q hq=>by cases hq),HW1.o.2⟩
 case round=>
  clear HW1;obtain⟨i,v,hi,hgk,rfl,hB,hrow,hfr,hmd⟩:=hrel;by_cases hlt:i<n
  ·obtain⟨q,hq⟩:∃q,aC[i]?=some q:=⟨aC[i]'(by have:=HN.o;omega),bG _⟩;obtain⟨g,hg⟩:∃g,ta=some (J g 0):=by
    obtain⟨g2,c2,h2,-⟩:=HR.o.form (by have:=HN.o;omega);rw[HV.o]at h2;injection h2 with h2 _;exact⟨g2,h2⟩
   have yZ:(aC.take i).length=i:=by rw[length_take,<-HN.o];omega
   obtain⟨pa,pc,ev,-,hown⟩:=hrow.open yZ;have hown:wr.ownsRow 0 104 9 (.slice pa i pc) i ((aC.take i).flatMap BO.f):=hown;have hrw:Row DZ wr (Jn g n tc) aC:=by
    have:=HR.o.no hmd;rw[HV.o,hg]at this;exact this
   obtain⟨A0,A1,A2,A3,A4,A5,A6,A7,A8,Tz⟩:∃A0 A1 A2 A3 A4 A5 A6 A7 A8,DZ.f q=[.string A0,.string A1,.string A2,.string A3,.string A4,I A5,I A6,I A7,I A8]:=⟨_,_,_,_,_,_,_,_,_,rfl⟩;have c0:wr.cell? (J g (i*9))=some (.string A0):=hrw.cell i 0 hq (by rw[Tz];rfl);have c1:wr.cell? (J g (i*9+1))=some (.string A1):=hrw.cell i 1 hq (by rw[Tz];rfl);have c2:wr.cell? (J g (i*9+2))=some (.string A2):=hrw.cell i 2 hq (by rw[Tz];rfl);have c3:wr.cell? (J g (i*9+3))=some (.string A3):=hrw.cell i 3 hq (by rw[Tz];rfl);have c4:wr.cell? (J g (i*9+4))=some (.string A4):=hrw.cell i 4 hq (by rw[Tz];rfl);have c5:wr.cell? (J g (i*9+5))=some (I A5):=hrw.cell i 5 hq (by rw[Tz];rfl);have c6:wr.cell? (J g (i*9+6))=some (I A6):=hrw.cell i 6 hq (by rw[Tz];rfl);have c7:wr.cell? (J g (i*9+7))=some (I A7):=hrw.cell i 7 hq (by rw[Tz];rfl);have c8:wr.cell? (J g (i*9+8))=some (I A8):=hrw.cell i 8 hq (by rw[Tz];rfl);have hlt2:(i:Int)<n:=by omega
   have HAE:Hd (BO.f q=[.string A0,.string A1,.string A2,.string A3,.string A4,I A5,I A6,I A7,I A8]):=Tz;have HI:Hd (aG wr M [.slice pa i pc] 99∧Row BO wr v (aC.take i)∧v=.slice pa i pc∧(∀q,v.ownBlock=some q->M<=q)∧Mod No w wr∧(aC.take i).length=i∧aC[i]?=some q∧wr.ownsRow 0 104 9 (.slice pa i pc) i ((aC.take i).flatMap BO.f)):=⟨by rw[<-ev];exact hB,hrow,ev,hfr,hmd,yZ,hq,hown⟩;subst hg;clear hB hrow ev hfr hmd yZ hq hrw Tz hown;go_wp2_with fail;have HW2:Hd (aG (wr.alloc (.cells #[.string A0,.string A1,.string A2,.string A3,.string A4,I A5,I A6,I A7,I A8] 161)) wr.heap.size [.string A0,.string A1,.string A2,.string A3,.string A4,I A5,I A6,I A7,I A8] 161∧Mod No wr (wr.alloc (.cells #[.string A0,.string A1,.string A2,.string A3,.string A4,I A5,I A6,I A7,I A8] 161))):=⟨heap_alloc_new wr _,(Mod.refl _ _).alloc _⟩;generalize wr.alloc (.cells #[.string A0,.string A1,.string A2,.string A3,.string A4,I A5,I A6,I A7,I A8] 161)=W2 at HW2 ⊢;clear c0 c1 c2 c3 c4 c5 c6 c7 c8;have b0:=HW2.o.1.cell 0 rfl;have b1:=HW2.o.1.cell 1 rfl;have b2:=HW2.o.1.cell 2 rfl;have b3:=HW2.o.1.cell 3 rfl;have b4:=HW2.o.1.cell 4 rfl;have b5:=HW2.o.1.cell 5 rfl;have b6:=HW2.o.1.cell 6 rfl;have b7:=HW2.o.1.cell 7 rfl;have b8:=HW2.o.1.cell 8 rfl;generalize wr.heap.size=Q at b0 b1 b2 b3 b4 b5 b6 b7 b8 ⊢;have hB2:=HI.o.1.mod HW2.o.2 (fun x=>x);have hrow2:Row BO W2 (.slice pa i pc) (aC.take i):=by
    have:=HI.o.2.1.no HW2.o.2;rw[HI.o.2.2.1]at this;exact this
   have hown2:W2.ownsRow 0 104 9 (.slice pa i pc) i ((aC.take i).flatMap BO.f):=by
    have:=hrow2;unfold Row at this;rw[HI.o.2.2.2.2.2.1]at this;exact this
   have k0:=hB2.cell 0 rfl;have K0:=hB2.aS 0 rfl;have F0:=hB2.dQ 0;have hMl:=hB2.lt;have hSf:some M≠(Value.slice pa i pc).ownBlock:=fun e=>hB2.apart hrow2 (by decide) e.symm
   clear hB2 hrow2;go_wp2_with fail
   go_region_law (refine step_append_lies _ (by rfl) _ _ _ (by rfl) 0 104 i0 _ 9 112 underlying97 af hz0 hz1 hz2 rfl (by omega) (.slice pa i pc) i ((aC.take i).flatMap BO.f) (by rfl) ((hown2.alloc _).drew) (J W2.heap.size 0) 1 1 [.string A0,.string A1,.string A2,.string A3,.string A4,I A5,I A6,I A7,I A8] (by rfl) (by rfl) (World.news_of_block (cs:=#[.string A0,.string A1,.string A2,.string A3,.string A4,I A5,I A6,I A7,I A8]) (t:=104) (fr:=(0,0)) (heap_alloc_new W2 _)) (by intro u hu;simp at hu;rcases hu with rfl | rfl | rfl | rfl | rfl | rfl | rfl | rfl | rfl <;> rfl) (by omega) (by unfold maxLen;omega) (by omega) (by simp) (W2.heap.size+1) (by simp) ?_;intro gg cap2 w7 gV hgrow hat fJ;have s0:=(hgrow.cell_far (J M 0) (by simp;omega) hSf).trans (K0 _);have s1:=(hgrow.frozen_far (J M 0) (by simp;omega) hSf).trans (F0 _))
   all_goals
    have vY:Row BO w7 (Jn gg (i+1) cap2) (aC.take (i+1)):=by
     rw[take_add_one,HI.o.2.2.2.2.2.2.1];exact jq HI.o.2.2.2.2.2.1 HAE.o.symm gV
    have Cb:aN W2 (.slice pa i pc) (Jn gg (i+1) cap2):=gW (H:=W2.heap.size+1) hat (by omega);have hMw:M<=W2.heap.size:=by omega
    have Qs:∀q,(Jn gg (i+1) cap2).ownBlock=some q->M<=q:=fun q hq=>by
     rcases Cb q hq with e | e
     ·exact HI.o.2.2.2.1 q (by rw[HI.o.2.2.1];exact e)
     ·omega
    have sH:Mod No w w7:=(((HI.o.2.2.2.2.1.no HW2.o.2).alloc _).drew).grown hgrow (fun g hg hlt=>by
     have h1:=HI.o.2.2.2.1 g (by rw[HI.o.2.2.1];exact hg)
     have h2:=HM.o
     exact absurd hlt (by omega))
    have Vu:=(((HI.o.1.mod HW2.o.2 (fun x=>x)).alloc _).drew).grown hgrow hSf;have hB8:aG (w7.setCell (J M 0) (Jn gg (i+1) cap2)) M [Jn gg (i+1) cap2] 99:=Vu.set 0 _;have gU:Hd (aG (w7.setCell (J M 0) (Jn gg (i+1) cap2)) M [Jn gg (i+1) cap2] 99∧Row BO (w7.setCell (J M 0) (Jn gg (i+1) cap2)) (Jn gg (i+1) cap2) (aC.take (i+1))∧(∀q,(Jn gg (i+1) cap2).ownBlock=some q->M<=q)∧Mod No w (w7.setCell (J M 0) (Jn gg (i+1) cap2))):=⟨hB8,vY.other (a:=J M 0) (Vu.apart vY (by decide)) _,Qs,sH.setCell (a:=J M 0) (fun e=>by have:=HM.o;exact absurd e (by show ¬M<_;omega)) _⟩;generalize w7.setCell (J M 0) (Jn gg (i+1) cap2)=w8 at gU ⊢;clear vY Cb Qs sH Vu hB8 gV hgrow hat fJ s0 s1 k0 K0 F0 hSf hown2;go_wp2;go_roundg (n-(i+1))
    case measure=>omega
    case rel=>exact⟨i+1,_,by omega,rfl,by go_num,gU.o.1,gU.o.2.1,gU.o.2.2.1,gU.o.2.2.2⟩
  ·obtain rfl:i=n:=by omega
   have HE:Hd (lC wr M aC∧Mod No w wr):=⟨⟨v,hB,by rw[HN.o,take_length]at hrow;exact hrow⟩,hmd⟩;clear hB hrow hfr hmd;go_wp2;go_ret;exact⟨M,rfl,HE.o.1,HE.o.2⟩
end
section
open Go.RowKit
abbrev U5:List Value:=[I 0,.string ⟨#[]⟩,.string ⟨#[]⟩,.string ⟨#[]⟩,.string ⟨#[]⟩,I 0]
def aAU(l:List UInt8)(X Y Z1 Z2:ByteArray)(c:Int):Prop:=∀rs v x,aI.cZ 1000 l 0 []=some (rs,0,0)->M3.view rs=some (some v)->M3.find v=some (some x)->X=⟨x.x.toArray⟩∧Y=⟨x.y.toArray⟩∧Z1=⟨x.z1.toArray⟩∧Z2=⟨x.z2.toArray⟩∧c=(x.c:Int)
def aFP(l:List UInt8)(r:List iL × Nat × Nat)(w:World)(e:Ending)(w':World):Prop:=Mod No w w'∧((r.2.2=0∧∃m,e=.returned (.tuple #[Jx m 0,.agg #[I 0,.string ⟨#[]⟩,.string ⟨#[]⟩,.string ⟨#[]⟩,.string ⟨#[]⟩,I 0],I 0])∧lC w' m r.1)∨(¬r.2.2=0∧∃X Y Z1 Z2 c,e=.returned (.tuple #[.pointer none,.agg #[I r.2.1,.string X,.string Y,.string Z1,.string Z2,I c],I r.2.2])∧aAU l X Y Z1 Z2 c))
end
end Go.Proofs.YtoebidlghdidoaaGreatDoor
