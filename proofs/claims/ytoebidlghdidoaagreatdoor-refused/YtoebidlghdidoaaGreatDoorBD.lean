import Derived.Test.YtoebidlghdidoaaGreatDoorBC
import Derived.Test.YtoebidlghdidoaaGreatDoorProg
import Derived.WalkKit
import Derived.WalkSpells
import Derived.WalkLawsBesides
import Derived.BigQuiet
import Derived.Deep.QuietTactic
import Derived.Handy
import Derived.Lib.Strings
import Derived.Lib.IndexBytes
import Derived.Deep.RegionHeld3
import Derived.Deep.AppendLies
import Derived.Deep.DrawnRows
import Derived.Laws.IdiomStrings
import Derived.Lib.UnsafeStr
import Derived.OwnWalk
import Derived.KernelRfl
set_option maxHeartbeats 1600000
set_option maxRecDepth 100000
namespace Go.Proofs.YtoebidlghdidoaaGreatDoor
open Tx M2 Tryz List
section
open Go.RowKit
attribute [local go_sem ↓] Go.wp_at_zero Go.wp_at_succ
theorem aIH:(prog.info? 104).map (fun i=>(i.zero,i.size,i.bytes))=some (some (.agg #[.string ⟨#[]⟩,.string ⟨#[]⟩,.string ⟨#[]⟩,.string ⟨#[]⟩,.string ⟨#[]⟩,.int .i64 0,.int .i64 0,.int .i64 0,.int .i64 0]),9,112):=by kernel_rfl
def lC(w:World)(m:Nat)(aC:List iL):Prop:=∃v,aG w m [v] 99∧Row BO w v aC
theorem lC.no{w w':World}{m:Nat}{aC:List iL}(h:lC w m aC)(hm:Mod No w w'):lC w' m aC:=by
 obtain⟨v,h1,h2⟩:=h;exact⟨v,h1.mod hm (fun x=>x),h2.no hm⟩
theorem Ho(w:World)(vt:Value)(aC:List iL)(h:Row DZ w vt aC)(hl:aC.length<=1000):Calls prog 34 #[vt] w fun e w'=>∃m,e=.returned (.pointer (some ⟨m,0,none⟩))∧lC w' m aC∧Mod No w w':=by
 obtain⟨n,hn⟩:=eX aC.length;obtain⟨ta,tc,evt,-,-⟩:=h.open hn.symm;rw[<-hn]at hl;have HN:=qH hn;have HR:=qH h;have HV:=qH evt;rw[evt];clear h hn evt;obtain⟨i0,af,hz0,hz1,hz2⟩:=info_parts aIH;go_enter func34,ntmps34;go_wp2_with fail;have HW1:Hd (aG (w.alloc (.cells #[aH] 99)) w.heap.size [aH] 99∧Mod No w (w.alloc (.cells #[aH] 99))):=⟨heap_alloc_new w _,(Mod.refl _ _).alloc _⟩;generalize w.alloc (.cells #[aH] 99)=W1 at HW1 ⊢;obtain⟨M,hM⟩:∃M,w.heap.size=M:=⟨_,rfl⟩;have HM:=qH hM;rw[hM]at HW1 ⊢;clear hM;go_loopg [10] n (fun gh v10 wr=>∃(i:Nat) (v:Value),i<=n∧gh=n-i∧v10=.int .i64 i∧aG wr M [v] 99∧Row BO wr v (aC.take i)∧(∀q,v.ownBlock=some q->M<=q)∧Mod No w wr)
 case atStart=>exact⟨0,aH,by omega,by omega,rfl,HW1.o.1,Row.nil _ _,(fun q hq=>by cases hq),HW1.o.2⟩
 case round=>
  clear HW1;obtain⟨i,v,hi,hgk,rfl,hB,hrow,hfr,hmd⟩:=hrel;by_cases hlt:i<n
  ·obtain⟨q,hq⟩:∃q,aC[i]?=some q:=⟨aC[i]'(by have:=HN.o;omega),bG _⟩;obtain⟨g,hg⟩:∃g,ta=some ⟨g,0,none⟩:=by
    obtain⟨g2,c2,h2,-⟩:=HR.o.form (by have:=HN.o;omega);rw[HV.o]at h2;injection h2 with h2 _;exact⟨g2,h2⟩
   have yZ:(aC.take i).length=i:=by rw[length_take,<-HN.o];omega
   obtain⟨pa,pc,ev,-,hown⟩:=hrow.open yZ;have hown:wr.ownsRow 0 104 9 (.slice pa i pc) i ((aC.take i).flatMap BO.f):=hown;have hrw:Row DZ wr (.slice (some ⟨g,0,none⟩) n tc) aC:=by
    have:=HR.o.no hmd;rw[HV.o,hg]at this;exact this
   obtain⟨A0,A1,A2,A3,A4,A5,A6,A7,A8,Tz⟩:∃A0 A1 A2 A3 A4 A5 A6 A7 A8,DZ.f q=[.string A0,.string A1,.string A2,.string A3,.string A4,.int .i64 A5,.int .i64 A6,.int .i64 A7,.int .i64 A8]:=⟨_,_,_,_,_,_,_,_,_,rfl⟩;have c0:wr.cell? ⟨g,i*9,none⟩=some (.string A0):=hrw.cell i 0 hq (by rw[Tz];rfl);have c1:wr.cell? ⟨g,i*9+1,none⟩=some (.string A1):=hrw.cell i 1 hq (by rw[Tz];rfl);have c2:wr.cell? ⟨g,i*9+2,none⟩=some (.string A2):=hrw.cell i 2 hq (by rw[Tz];rfl);have c3:wr.cell? ⟨g,i*9+3,none⟩=some (.string A3):=hrw.cell i 3 hq (by rw[Tz];rfl);have c4:wr.cell? ⟨g,i*9+4,none⟩=some (.string A4):=hrw.cell i 4 hq (by rw[Tz];rfl);have c5:wr.cell? ⟨g,i*9+5,none⟩=some (.int .i64 A5):=hrw.cell i 5 hq (by rw[Tz];rfl);have c6:wr.cell? ⟨g,i*9+6,none⟩=some (.int .i64 A6):=hrw.cell i 6 hq (by rw[Tz];rfl);have c7:wr.cell? ⟨g,i*9+7,none⟩=some (.int .i64 A7):=hrw.cell i 7 hq (by rw[Tz];rfl);have c8:wr.cell? ⟨g,i*9+8,none⟩=some (.int .i64 A8):=hrw.cell i 8 hq (by rw[Tz];rfl);have hlt2:(i:Int)<n:=by omega
   have HAE:Hd (BO.f q=[.string A0,.string A1,.string A2,.string A3,.string A4,.int .i64 A5,.int .i64 A6,.int .i64 A7,.int .i64 A8]):=Tz;have HI:Hd (aG wr M [.slice pa i pc] 99∧Row BO wr v (aC.take i)∧v=.slice pa i pc∧(∀q,v.ownBlock=some q->M<=q)∧Mod No w wr∧(aC.take i).length=i∧aC[i]?=some q∧wr.ownsRow 0 104 9 (.slice pa i pc) i ((aC.take i).flatMap BO.f)):=⟨by rw[<-ev];exact hB,hrow,ev,hfr,hmd,yZ,hq,hown⟩;subst hg;clear hB hrow ev hfr hmd yZ hq hrw Tz hown;go_wp2_with fail;have HW2:Hd (aG (wr.alloc (.cells #[.string A0,.string A1,.string A2,.string A3,.string A4,.int .i64 A5,.int .i64 A6,.int .i64 A7,.int .i64 A8] 161)) wr.heap.size [.string A0,.string A1,.string A2,.string A3,.string A4,.int .i64 A5,.int .i64 A6,.int .i64 A7,.int .i64 A8] 161∧Mod No wr (wr.alloc (.cells #[.string A0,.string A1,.string A2,.string A3,.string A4,.int .i64 A5,.int .i64 A6,.int .i64 A7,.int .i64 A8] 161))):=⟨heap_alloc_new wr _,(Mod.refl _ _).alloc _⟩;generalize wr.alloc (.cells #[.string A0,.string A1,.string A2,.string A3,.string A4,.int .i64 A5,.int .i64 A6,.int .i64 A7,.int .i64 A8] 161)=W2 at HW2 ⊢;clear c0 c1 c2 c3 c4 c5 c6 c7 c8;have b0:=HW2.o.1.cell 0 rfl;have b1:=HW2.o.1.cell 1 rfl;have b2:=HW2.o.1.cell 2 rfl;have b3:=HW2.o.1.cell 3 rfl;have b4:=HW2.o.1.cell 4 rfl;have b5:=HW2.o.1.cell 5 rfl;have b6:=HW2.o.1.cell 6 rfl;have b7:=HW2.o.1.cell 7 rfl;have b8:=HW2.o.1.cell 8 rfl;generalize wr.heap.size=Q at b0 b1 b2 b3 b4 b5 b6 b7 b8 ⊢;have hB2:=HI.o.1.mod HW2.o.2 (fun x=>x);have hrow2:Row BO W2 (.slice pa i pc) (aC.take i):=by
    have:=HI.o.2.1.no HW2.o.2;rw[HI.o.2.2.1]at this;exact this
   have hown2:W2.ownsRow 0 104 9 (.slice pa i pc) i ((aC.take i).flatMap BO.f):=by
    have:=hrow2;unfold Row at this;rw[HI.o.2.2.2.2.2.1]at this;exact this
   have k0:=hB2.cell 0 rfl;have K0:=hB2.aS 0 rfl;have F0:=hB2.dQ 0;have hMl:=hB2.lt;have hSf:some M≠(Value.slice pa i pc).ownBlock:=fun e=>hB2.apart hrow2 (by decide) e.symm
   clear hB2 hrow2;go_wp2_with fail
   go_region_law (refine step_append_lies _ (by rfl) _ _ _ (by rfl) 0 104 i0 _ 9 112 underlying97 af hz0 hz1 hz2 rfl (by omega) (.slice pa i pc) i ((aC.take i).flatMap BO.f) (by rfl) ((hown2.alloc _).drew) ⟨W2.heap.size,0,none⟩ 1 1 [.string A0,.string A1,.string A2,.string A3,.string A4,.int .i64 A5,.int .i64 A6,.int .i64 A7,.int .i64 A8] (by rfl) (by rfl) (World.news_of_block (cs:=#[.string A0,.string A1,.string A2,.string A3,.string A4,.int .i64 A5,.int .i64 A6,.int .i64 A7,.int .i64 A8]) (t:=104) (fr:=(0,0)) (heap_alloc_new W2 _)) (by intro u hu;simp at hu;rcases hu with rfl | rfl | rfl | rfl | rfl | rfl | rfl | rfl | rfl <;> rfl) (by omega) (by unfold maxLen;omega) (by omega) (by simp) (W2.heap.size+1) (by simp) ?_;intro gg cap2 w7 gV hgrow hat fJ;have s0:=(hgrow.cell_far ⟨M,0,none⟩ (by simp;omega) hSf).trans (K0 _);have s1:=(hgrow.frozen_far ⟨M,0,none⟩ (by simp;omega) hSf).trans (F0 _))
   all_goals
    have vY:Row BO w7 (.slice (some ⟨gg,0,none⟩) (i+1) cap2) (aC.take (i+1)):=by
     rw[take_add_one,HI.o.2.2.2.2.2.2.1];exact jq HI.o.2.2.2.2.2.1 HAE.o.symm gV
    have Cb:aN W2 (.slice pa i pc) (.slice (some ⟨gg,0,none⟩) (i+1) cap2):=gW (H:=W2.heap.size+1) hat (by omega);have hMw:M<=W2.heap.size:=by omega
    have Qs:∀q,(Value.slice (some ⟨gg,0,none⟩) (i+1) cap2).ownBlock=some q->M<=q:=fun q hq=>by
     rcases Cb q hq with e | e
     ·exact HI.o.2.2.2.1 q (by rw[HI.o.2.2.1];exact e)
     ·omega
    have sH:Mod No w w7:=(((HI.o.2.2.2.2.1.no HW2.o.2).alloc _).drew).grown hgrow (fun g hg hlt=>by
     have h1:=HI.o.2.2.2.1 g (by rw[HI.o.2.2.1];exact hg)
     have h2:=HM.o
     exact absurd hlt (by omega))
    have Vu:=(((HI.o.1.mod HW2.o.2 (fun x=>x)).alloc _).drew).grown hgrow hSf;have hB8:aG (w7.setCell ⟨M,0,none⟩ (.slice (some ⟨gg,0,none⟩) (i+1) cap2)) M [.slice (some ⟨gg,0,none⟩) (i+1) cap2] 99:=Vu.set 0 _;have gU:Hd (aG (w7.setCell ⟨M,0,none⟩ (.slice (some ⟨gg,0,none⟩) (i+1) cap2)) M [.slice (some ⟨gg,0,none⟩) (i+1) cap2] 99∧Row BO (w7.setCell ⟨M,0,none⟩ (.slice (some ⟨gg,0,none⟩) (i+1) cap2)) (.slice (some ⟨gg,0,none⟩) (i+1) cap2) (aC.take (i+1))∧(∀q,(Value.slice (some ⟨gg,0,none⟩) (i+1) cap2).ownBlock=some q->M<=q)∧Mod No w (w7.setCell ⟨M,0,none⟩ (.slice (some ⟨gg,0,none⟩) (i+1) cap2))):=⟨hB8,vY.other (a:=⟨M,0,none⟩) (Vu.apart vY (by decide)) _,Qs,sH.setCell (a:=⟨M,0,none⟩) (fun e=>by have:=HM.o;exact absurd e (by show ¬M<_;omega)) _⟩;generalize w7.setCell ⟨M,0,none⟩ (.slice (some ⟨gg,0,none⟩) (i+1) cap2)=w8 at gU ⊢;clear vY Cb Qs sH Vu hB8 gV hgrow hat fJ s0 s1 k0 K0 F0 hSf hown2;go_wp2;go_roundg (n-(i+1))
    case measure=>omega
    case rel=>exact⟨i+1,_,by omega,rfl,by go_num,gU.o.1,gU.o.2.1,gU.o.2.2.1,gU.o.2.2.2⟩
  ·obtain rfl:i=n:=by omega
   have HE:Hd (lC wr M aC∧Mod No w wr):=⟨⟨v,hB,by rw[HN.o,take_length]at hrow;exact hrow⟩,hmd⟩;clear hB hrow hfr hmd;go_wp2;go_ret;exact⟨M,rfl,HE.o.1,HE.o.2⟩
end
section
open Go.RowKit
abbrev U5:List Value:=[.int .i64 0,.string ⟨#[]⟩,.string ⟨#[]⟩,.string ⟨#[]⟩,.string ⟨#[]⟩,.int .i64 0]
def aAU(l:List UInt8)(X Y Z1 Z2:ByteArray)(c:Int):Prop:=∀rs v x,aI.cZ 1000 l 0 []=some (rs,0,0)->M3.view rs=some (some v)->M3.find v=some (some x)->X=⟨x.x.toArray⟩∧Y=⟨x.y.toArray⟩∧Z1=⟨x.z1.toArray⟩∧Z2=⟨x.z2.toArray⟩∧c=(x.c:Int)
def aFP(l:List UInt8)(r:List iL × Nat × Nat)(w:World)(e:Ending)(w':World):Prop:=Mod No w w'∧((r.2.2=0∧∃m,e=.returned (.tuple #[.pointer (some ⟨m,0,none⟩),.agg #[.int .i64 0,.string ⟨#[]⟩,.string ⟨#[]⟩,.string ⟨#[]⟩,.string ⟨#[]⟩,.int .i64 0],.int .i64 0])∧lC w' m r.1)∨(¬r.2.2=0∧∃X Y Z1 Z2 c,e=.returned (.tuple #[.pointer none,.agg #[.int .i64 r.2.1,.string X,.string Y,.string Z1,.string Z2,.int .i64 c],.int .i64 r.2.2])∧aAU l X Y Z1 Z2 c))
end
section
open Go.RowKit
attribute [local go_sem ↓] Go.wp_at_zero Go.wp_at_succ
variable {r:List iL × Nat × Nat} {w1:World}
theorem MQ{limit:Nat}{l:List UInt8}(h:M3.compile limit l=some r):∃rs line er,aI.cZ 1000 l 0 []=some (rs,line,er)∧((¬er=0∧r=([],line,er))∨(er=0∧0<rs.length∧((M3.view rs=some none∧r=([],0,3))∨∃v,M3.view rs=some (some v)∧((∃aC,M3.states v limit=some (some aC)∧aC.length<=1000∧r=(aC,0,0))∨(M3.states v limit=some none∧((∃x,M3.find v=some (some x)∧r=([],0,4))∨(M3.find v=some none∧r=([],0,5)))))))):=by
 unfold M3.compile at h;split at h
 ·cases h
 ·rename_i rs line er hr;refine⟨rs,line,er,hr,?_⟩;split at h
  ·rename_i he;exact Or.inl ⟨he,(dY h).symm⟩
  ·rename_i he;split at h
   ·cases h
   ·rename_i hl;refine Or.inr ⟨Decidable.not_not.1 he,by omega,?_⟩;split at h
    ·cases h
    ·rename_i hv;exact Or.inl ⟨hv,(dY h).symm⟩
    ·rename_i v hv;refine Or.inr ⟨v,hv,?_⟩;split at h
     ·cases h
     ·rename_i aC hs;split at h
      ·rename_i hc;exact Or.inl ⟨aC,hs,hc,(dY h).symm⟩
      ·cases h
     ·rename_i hs;refine Or.inr ⟨hs,?_⟩;split at h
      ·cases h
      ·rename_i x hf;exact Or.inl ⟨x,hf,(dY h).symm⟩
      ·rename_i hf;exact Or.inr ⟨hf,(dY h).symm⟩
theorem Mod.six{w:World}(h:Mod No w w1)(v0 v1 v2 v3 v4 v5:Value):Mod No w ((((((w1.setCell ⟨w.heap.size,0,none⟩ v0).setCell ⟨w.heap.size,1,none⟩ v1).setCell ⟨w.heap.size,2,none⟩ v2).setCell ⟨w.heap.size,3,none⟩ v3).setCell ⟨w.heap.size,4,none⟩ v4).setCell ⟨w.heap.size,5,none⟩ v5):=(((((h.setCell (a:=⟨w.heap.size,0,none⟩) (fun e=>absurd e (Nat.lt_irrefl _)) _).setCell (a:=⟨w.heap.size,1,none⟩) (fun e=>absurd e (Nat.lt_irrefl _)) _).setCell (a:=⟨w.heap.size,2,none⟩) (fun e=>absurd e (Nat.lt_irrefl _)) _).setCell (a:=⟨w.heap.size,3,none⟩) (fun e=>absurd e (Nat.lt_irrefl _)) _).setCell (a:=⟨w.heap.size,4,none⟩) (fun e=>absurd e (Nat.lt_irrefl _)) _).setCell (a:=⟨w.heap.size,5,none⟩) (fun e=>absurd e (Nat.lt_irrefl _)) _
theorem lC.six{b m:Nat}{aC:List iL}{cs:List Value}(h:lC w1 m aC)(hb:aG w1 b cs 42)(v0 v1 v2 v3 v4 v5:Value):lC ((((((w1.setCell ⟨b,0,none⟩ v0).setCell ⟨b,1,none⟩ v1).setCell ⟨b,2,none⟩ v2).setCell ⟨b,3,none⟩ v3).setCell ⟨b,4,none⟩ v4).setCell ⟨b,5,none⟩ v5) m aC:=by
 obtain⟨v,h1,h2⟩:=h;have hm:Mod (fun k=>k=b) w1 ((((((w1.setCell ⟨b,0,none⟩ v0).setCell ⟨b,1,none⟩ v1).setCell ⟨b,2,none⟩ v2).setCell ⟨b,3,none⟩ v3).setCell ⟨b,4,none⟩ v4).setCell ⟨b,5,none⟩ v5):=((((((Mod.refl (fun k=>k=b) _).setCell (a:=⟨b,0,none⟩) (fun _=>rfl) _).setCell (a:=⟨b,1,none⟩) (fun _=>rfl) _).setCell (a:=⟨b,2,none⟩) (fun _=>rfl) _).setCell (a:=⟨b,3,none⟩) (fun _=>rfl) _).setCell (a:=⟨b,4,none⟩) (fun _=>rfl) _).setCell (a:=⟨b,5,none⟩) (fun _=>rfl) _;exact⟨v,h1.mod hm (h1.diff hb (by decide)),h2.mod hm (fun g hg e=>hb.apart h2 (by decide) (by rw[hg,e]))⟩
theorem wG(w:World)(s:ByteArray)(hs:s.size<=1048576)(limit:Nat)(hl1:1<=limit)(hl2:limit<=200)(hM:M3.compile limit s.data.toList=some r):Calls prog 11 #[.string s,.int .i64 limit] w fun e w'=>aFP s.data.toList r w e w':=by
 obtain⟨rs,line,er,hread,hcase⟩:=MQ hM;have H9:=qH fun wx=>TA s wx hs hread
 have aIs:¬(limit:Int)<1:=by omega
 have aIt:¬(200:Int)<(limit:Int):=by omega
 have Q8:=qH hread;generalize s.data.toList=sl at Q8 ⊢;clear hread hM hs;go_enter func11,ntmps11;go_wp2_with fail;have HW1:Hd (Mod No w (w.alloc (.cells #[.int .i64 0,.string ⟨#[]⟩,.string ⟨#[]⟩,.string ⟨#[]⟩,.string ⟨#[]⟩,.int .i64 0] 42))∧aG (w.alloc (.cells #[.int .i64 0,.string ⟨#[]⟩,.string ⟨#[]⟩,.string ⟨#[]⟩,.string ⟨#[]⟩,.int .i64 0] 42)) w.heap.size U5 42):=⟨(Mod.refl _ _).alloc _,heap_alloc_new w _⟩;generalize w.alloc (.cells #[.int .i64 0,.string ⟨#[]⟩,.string ⟨#[]⟩,.string ⟨#[]⟩,.string ⟨#[]⟩,.int .i64 0] 42)=W1 at HW1 ⊢;refine(H9.o _).mono ?_;rintro e w2 ⟨m2,vr,fB,rfl,aAV,xZ,hr4⟩;have HW2:=qH (a2 (HW1.o.1.no m2) (HW1.o.2.mod m2 (fun x=>x)));clear m2 HW1 H9;rcases hcase with ⟨he,hr⟩ | ⟨he,hl0,hcase⟩
 ·have heq:((er:Int)==0)=false:=by rw[beq_eq_false_iff_ne];omega
  have u0:=HW2.o.2.cell 0 rfl;have u1:=HW2.o.2.cell 1 rfl;have u2:=HW2.o.2.cell 2 rfl;have u3:=HW2.o.2.cell 3 rfl;have u4:=HW2.o.2.cell 4 rfl;have u5:=HW2.o.2.cell 5 rfl;have f0:=HW2.o.2.free 0;have f1:=HW2.o.2.free 1;have f2:=HW2.o.2.free 2;have f3:=HW2.o.2.free 3;have f4:=HW2.o.2.free 4;have f5:=HW2.o.2.free 5;have HR:=qH (a2 hr he);clear aAV xZ hr4 hr he;go_wp2;refine bodyPost_ret (v:=.tuple #[.pointer none,.agg #[.int .i64 line,.string ⟨#[]⟩,.string ⟨#[]⟩,.string ⟨#[]⟩,.string ⟨#[]⟩,.int .i64 0],.int .i64 er]) (by simp[results,results11,go_sem,u0,u1,u2,u3,u4,u5]) rfl ?_;rw[HR.o.1];exact⟨HW2.o.1.six _ _ _ _ _ _,Or.inr ⟨HR.o.2,_,_,_,_,_,rfl,fun rs' v' x' h1 _ _=>by rw[Q8.o]at h1;cases h1;exact absurd rfl HR.o.2⟩⟩
 ·subst he;have hp0:0<fB.length:=by rw[<-length_map (f:=Prod.fst),aAV];exact hl0
  have hp4:fB.length<=4:=by rw[<-length_map (f:=Prod.fst),aAV];exact hr4
  have H10:=qH fun res (hv:M3.view rs=some res)=>QH w2 _ vr fB xZ hp4 hp0 (by rw[aAV];exact hv)
  clear aAV xZ hr4 hl0 hp0 hp4;rcases hcase with ⟨hv,hr⟩ | ⟨v,hv,hcase⟩
  ·have h10:=H10.o _ hv;have HR:=qH hr;have HVW:=qH hv;clear hv H10 hr;go_wp2_with fail;refine h10.mono ?_;rintro e w3 ⟨m3,rfl⟩;have iq:=qH (a2 (HW2.o.1.no m3) (HW2.o.2.mod m3 (fun x=>x)));have u0:=iq.o.2.aS 0 rfl;have u1:=iq.o.2.aS 1 rfl;have u2:=iq.o.2.aS 2 rfl;have u3:=iq.o.2.aS 3 rfl;have u4:=iq.o.2.aS 4 rfl;have u5:=iq.o.2.aS 5 rfl;have f0:=iq.o.2.dQ 0;have f1:=iq.o.2.dQ 1;have f2:=iq.o.2.dQ 2;have f3:=iq.o.2.dQ 3;have f4:=iq.o.2.dQ 4;have f5:=iq.o.2.dQ 5;have hwn:¬w.heap.size=w3.heap.size:=by have:=iq.o.2.lt;omega
   clear h10 m3 HW2;go_wp2;refine bodyPost_ret (v:=.tuple #[.pointer none,.agg #[.int .i64 0,.string ⟨#[]⟩,.string ⟨#[]⟩,.string ⟨#[]⟩,.string ⟨#[]⟩,.int .i64 0],.int .i64 3]) (by simp[results,results11,go_sem,u0,u1,u2,u3,u4,u5]) rfl ?_;rw[HR.o];exact⟨(iq.o.1.alloc _).six _ _ _ _ _ _,Or.inr ⟨by decide,_,_,_,_,_,rfl,fun rs' v' x' h1 h2 _=>by rw[Q8.o]at h1;cases h1;rw[HVW.o]at h2;cases h2⟩⟩
  ·have h10:=H10.o _ hv;have HVW:=qH hv;clear hv H10;go_wp2_with fail;refine h10.mono ?_;rintro e w3 ⟨m3,ka,kw,kh,kd,rfl,hvp⟩;obtain⟨a1,n1,c1,e1⟩:=hvp.ah.sl;obtain⟨a2,n2,c2,e2⟩:=hvp.wo.sl;obtain⟨a3,n3,c3,e3⟩:=hvp.hi.sl;obtain⟨a4,n4,c4,e4⟩:=hvp.de.sl;rw[e1,e2,e3,e4];obtain⟨w4,hw4⟩:∃x,w3.alloc (.cells #[.slice a1 n1 c1,.slice a2 n2 c2,.slice a3 n3 c3,.slice a4 n4 c4] 86)=x:=⟨_,rfl⟩;have P6:Mod No w3 w4:=by rw[<-hw4];exact(Mod.refl _ _).alloc _
   have iq:Hd (Mod No w w4∧aG w4 w.heap.size U5 42∧aG w4 w3.heap.size [.slice a1 n1 c1,.slice a2 n2 c2,.slice a3 n3 c3,.slice a4 n4 c4] 86):=⟨(HW2.o.1.no m3).no P6,(HW2.o.2.mod m3 (fun x=>x)).mod P6 (fun x=>x),by rw[<-hw4];exact heap_alloc_new w3 _⟩;have HV:=qH (hvp.no P6);have HE:Hd (ka=.slice a1 n1 c1∧kw=.slice a2 n2 c2∧kh=.slice a3 n3 c3∧kd=.slice a4 n4 c4):=⟨e1,e2,e3,e4⟩;have H11:Hd (∀res,M3.states v limit=some res->Calls prog 33 #[.agg #[.slice a1 n1 c1,.slice a2 n2 c2,.slice a3 n3 c3,.slice a4 n4 c4],.int .i64 limit] w4 fun e w'=>aCX res w4 e w'):=fun res hs=>by
    have:=QR w4 v _ ka kw kh kd HV.o limit (by omega) hs
    rwa [HE.o.1,HE.o.2.1,HE.o.2.2.1,HE.o.2.2.2]at this
   have y0:=iq.o.2.2.cell 0 rfl;have y1:=iq.o.2.2.cell 1 rfl;have y2:=iq.o.2.2.cell 2 rfl;have y3:=iq.o.2.2.cell 3 rfl;clear h10 m3 HW2 e1 e2 e3 e4 hvp P6;rcases hcase with ⟨aC,hst,hsl,hr⟩ | ⟨hst,hcase⟩
   ·have h11:=H11.o _ hst;have HR:=qH hr;have HSL:=qH hsl;clear hst hr hsl H11;go_wp2_with fail;refine h11.mono ?_;rintro e w5 ⟨m5,vt,rfl,hrow,-⟩;have h12:=Ho w5 vt aC hrow HSL.o;obtain⟨at',nt,ct,et⟩:=hrow.sl;have HW5:Hd (Mod No w w5∧aG w5 w.heap.size U5 42):=⟨iq.o.1.no m5,iq.o.2.1.mod m5 (fun x=>x)⟩;rw[et]at h12 ⊢;clear h11 m5 hrow iq y0 y1 y2 y3 hw4 et;go_wp2_with fail;refine h12.mono ?_;rintro e w6 ⟨m,rfl,aC1,m6⟩;have PO:Hd (Mod No w w6∧aG w6 w.heap.size U5 42∧lC w6 m aC):=⟨HW5.o.1.no m6,HW5.o.2.mod m6 (fun x=>x),aC1⟩;clear h12 aC1 m6 HW5;have u0:=PO.o.2.1.cell 0 rfl;have u1:=PO.o.2.1.cell 1 rfl;have u2:=PO.o.2.1.cell 2 rfl;have u3:=PO.o.2.1.cell 3 rfl;have u4:=PO.o.2.1.cell 4 rfl;have u5:=PO.o.2.1.cell 5 rfl;have f0:=PO.o.2.1.free 0;have f1:=PO.o.2.1.free 1;have f2:=PO.o.2.1.free 2;have f3:=PO.o.2.1.free 3;have f4:=PO.o.2.1.free 4;have f5:=PO.o.2.1.free 5;go_wp2;refine bodyPost_ret (v:=.tuple #[.pointer (some ⟨m,0,none⟩),.agg #[.int .i64 0,.string ⟨#[]⟩,.string ⟨#[]⟩,.string ⟨#[]⟩,.string ⟨#[]⟩,.int .i64 0],.int .i64 0]) (by simp[results,results11,go_sem,u0,u1,u2,u3,u4,u5]) rfl ?_;rw[HR.o];exact⟨PO.o.1.six _ _ _ _ _ _,Or.inl ⟨rfl,m,rfl,PO.o.2.2.six PO.o.2.1 _ _ _ _ _ _⟩⟩
   ·have h11:=H11.o _ hst;have H13:Hd (∀res wx,M3.find v=some res->Mod No w4 wx->Calls prog 35 #[.agg #[.slice a1 n1 c1,.slice a2 n2 c2,.slice a3 n3 c3,.slice a4 n4 c4]] wx fun e w'=>e=.returned (wiR res)∧Mod No wx w'):=fun res wx hs hm=>by
     have:=aAQ wx v _ ka kw kh kd (HV.o.no hm) hs
     rwa [HE.o.1,HE.o.2.1,HE.o.2.2.1,HE.o.2.2.2]at this
    clear hst H11;go_wp2_with fail;refine h11.mono ?_;rintro e w5 ⟨m5,rfl⟩;have HW5:Hd (Mod No w w5∧aG w5 w.heap.size U5 42):=⟨iq.o.1.no m5,iq.o.2.1.mod m5 (fun x=>x)⟩;have hY:=iq.o.2.2.mod m5 (fun x=>x);have aCy:=qH fun res (hs:M3.find v=some res)=>H13.o res w5 hs m5
    clear h11 m5 iq y0 y1 y2 y3 hw4 H13 HV;have y0:=hY.cell 0 rfl;have y1:=hY.cell 1 rfl;have y2:=hY.cell 2 rfl;have y3:=hY.cell 3 rfl;clear hY;rcases hcase with ⟨x,hf,hr⟩ | ⟨hf,hr⟩
    ·have h13:=aCy.o _ hf;have HR:=qH hr;obtain⟨S1,hS1⟩:=eX (⟨x.x.toArray⟩:ByteArray);obtain⟨S2,hS2⟩:=eX (⟨x.y.toArray⟩:ByteArray);obtain⟨S3,hS3⟩:=eX (⟨x.z1.toArray⟩:ByteArray);obtain⟨S4,hS4⟩:=eX (⟨x.z2.toArray⟩:ByteArray);have hwi:wiR (some x)=.tuple #[.agg #[.string S1,.string S2,.string S3,.string S4,.int .i64 x.c],.bool true]:=by rw[hS1,hS2,hS3,hS4];rfl
     rw[hwi]at h13;have HF:=qH (a5 hf hS1 hS2 hS3 hS4);clear hf hr aCy hwi hS1 hS2 hS3 hS4;go_wp2_with fail;refine h13.mono ?_;rintro e w6 ⟨rfl,m6⟩;obtain⟨w7,hw7⟩:∃y,w6.alloc (.cells #[.string S1,.string S2,.string S3,.string S4,.int .i64 x.c] 40)=y:=⟨_,rfl⟩;have aEs:Mod No w6 w7:=by rw[<-hw7];exact(Mod.refl _ _).alloc _
     have xJ:Hd (Mod No w w7∧aG w7 w.heap.size U5 42∧aG w7 w6.heap.size [.string S1,.string S2,.string S3,.string S4,.int .i64 x.c] 40):=⟨(HW5.o.1.no m6).no aEs,(HW5.o.2.mod m6 (fun x=>x)).mod aEs (fun x=>x),by rw[<-hw7];exact heap_alloc_new w6 _⟩;have z0:=xJ.o.2.2.cell 0 rfl;have z1:=xJ.o.2.2.cell 1 rfl;have z2:=xJ.o.2.2.cell 2 rfl;have z3:=xJ.o.2.2.cell 3 rfl;have z4:=xJ.o.2.2.cell 4 rfl;have u0:=xJ.o.2.1.cell 0 rfl;have u1:=xJ.o.2.1.cell 1 rfl;have u2:=xJ.o.2.1.cell 2 rfl;have u3:=xJ.o.2.1.cell 3 rfl;have u4:=xJ.o.2.1.cell 4 rfl;have u5:=xJ.o.2.1.cell 5 rfl;have f0:=xJ.o.2.1.free 0;have f1:=xJ.o.2.1.free 1;have f2:=xJ.o.2.1.free 2;have f3:=xJ.o.2.1.free 3;have f4:=xJ.o.2.1.free 4;have f5:=xJ.o.2.1.free 5;clear h13 m6 HW5 y0 y1 y2 y3 aEs;go_wp2_with fail
     go_region
     all_goals
      clear hw7;go_wp2;refine bodyPost_ret (v:=.tuple #[.pointer none,.agg #[.int .i64 0,.string S1,.string S2,.string S3,.string S4,.int .i64 x.c],.int .i64 4]) (by simp[results,results11,go_sem,u0,u1,u2,u3,u4,u5]) rfl ?_;rw[HR.o];exact⟨(xJ.o.1.six _ _ _ _ _ _).drew,Or.inr ⟨by decide,_,_,_,_,_,rfl,fun rs' v' x' h1 h2 h3=>by rw[Q8.o]at h1;cases h1;rw[HVW.o]at h2;cases h2;rw[HF.o.1]at h3;cases h3;exact⟨HF.o.2.1,HF.o.2.2.1,HF.o.2.2.2.1,HF.o.2.2.2.2,rfl⟩⟩⟩
    ·have h13:=aCy.o _ hf;have HR:=qH hr;have HF:=qH hf;have hwi:wiR none=.tuple #[.agg #[.string ⟨#[]⟩,.string ⟨#[]⟩,.string ⟨#[]⟩,.string ⟨#[]⟩,.int .i64 0],.bool false]:=rfl;rw[hwi]at h13;clear hf hr aCy hwi;go_wp2_with fail;refine h13.mono ?_;rintro e w6 ⟨rfl,m6⟩;have xJ:Hd (Mod No w w6∧aG w6 w.heap.size U5 42):=⟨HW5.o.1.no m6,HW5.o.2.mod m6 (fun x=>x)⟩;have u0:=xJ.o.2.aS 0 rfl;have u1:=xJ.o.2.aS 1 rfl;have u2:=xJ.o.2.aS 2 rfl;have u3:=xJ.o.2.aS 3 rfl;have u4:=xJ.o.2.aS 4 rfl;have u5:=xJ.o.2.aS 5 rfl;have f0:=xJ.o.2.dQ 0;have f1:=xJ.o.2.dQ 1;have f2:=xJ.o.2.dQ 2;have f3:=xJ.o.2.dQ 3;have f4:=xJ.o.2.dQ 4;have f5:=xJ.o.2.dQ 5;have hwn:¬w.heap.size=w6.heap.size:=by have:=xJ.o.2.lt;omega
     clear h13 m6 HW5 y0 y1 y2 y3;go_wp2;refine bodyPost_ret (v:=.tuple #[.pointer none,.agg #[.int .i64 0,.string ⟨#[]⟩,.string ⟨#[]⟩,.string ⟨#[]⟩,.string ⟨#[]⟩,.int .i64 0],.int .i64 5]) (by simp[results,results11,go_sem,u0,u1,u2,u3,u4,u5]) rfl ?_;rw[HR.o];exact⟨(xJ.o.1.alloc _).six _ _ _ _ _ _,Or.inr ⟨by decide,_,_,_,_,_,rfl,fun rs' v' x' h1 h2 h3=>by rw[Q8.o]at h1;cases h1;rw[HVW.o]at h2;cases h2;rw[HF.o]at h3;cases h3⟩⟩
end
namespace Ld
theorem F6(p:UInt8->Bool):∀(l:List UInt8) (j:Nat),j<=(l.takeWhile p).length->(j<(l.takeWhile p).length↔∃c,l[j]?=some c∧p c=true)
 | [],j,h=>by simp
 | a::l,j,h=>by
  by_cases ha:p a=true
  ·rw[takeWhile_cons_of_pos ha]at h ⊢
   match j with
   | 0=>simp[ha]
   | j+1=>
    have:=F6 p l j (by simpa using h);simpa using this
  ·rw[takeWhile_cons_of_neg ha]at h ⊢;have:j=0:=by simpa using h
   subst this;simp[ha]
theorem F7(p:UInt8->Bool):∀(l:List UInt8) (j:Nat),j<(l.takeWhile p).length->(l.takeWhile p)[j]?=l[j]?
 | [],j,h=>by simp at h
 | a::l,j,h=>by
  by_cases ha:p a=true
  ·rw[takeWhile_cons_of_pos ha]at h ⊢
   match j with
   | 0=>simp
   | j+1=>simpa using F7 p l j (by simpa using h)
  ·rw[takeWhile_cons_of_neg ha]at h;simp at h
theorem Zi(p:UInt8->Bool)(l:List UInt8):(l.takeWhile p).length<=l.length:=(takeWhile_sublist p).length_le
theorem LH(p:UInt8->Bool)(l:List UInt8)(k j:Nat)(h:j<=(run p l k).length):(j<(run p l k).length↔∃c,l[k+j]?=some c∧p c=true):=by
 have:=F6 p (l.drop k) j h;simpa [run] using this
theorem run_get(p:UInt8->Bool)(l:List UInt8)(k j:Nat)(h:j<(run p l k).length):(run p l k)[j]?=l[k+j]?:=by
 have:=F7 p (l.drop k) j h;simpa [run] using this
theorem tY(p:UInt8->Bool)(l:List UInt8)(k:Nat)(hk:k<=l.length):k+(run p l k).length<=l.length:=by
 have:=Zi p (l.drop k);simp at this;simp only[run];omega
theorem F8(p:UInt8->Bool)(l:List UInt8)(k j:Nat)(c:UInt8)(h:j<(run p l k).length)(hc:l[k+j]?=some c):(run p l k).take (j+1)=(run p l k).take j++[c]:=by
 have hg:=run_get p l k j h;rw[take_add_one,hg,hc];rfl
theorem Xy(t:List UInt8)(c:UInt8):lu (t++[c])=jm (lu t) c:=by simp[lu]
theorem aAW(t:List UInt8):∀n,n<=2300->t.foldl jm n<=2300:=by
 induction t with
 | nil=>intro n h;simpa using h
 | cons c t ih=>
  intro n h;simp only[foldl_cons];refine ih _ ?_;unfold jm;have:=c.toNat_lt;split <;> omega
theorem Du(t:List UInt8):lu t<=2300:=aAW t 0 (by omega)
theorem aCz(p:UInt8->Bool)(l:List UInt8)(k:Nat):∀c∈run p l k,p c=true:=fun c h=>by
 unfold run at h;generalize l.drop k=m at h
 induction m with
 | nil=>simp at h
 | cons a m ih=>
  by_cases ha:p a=true
  ·rw[takeWhile_cons_of_pos ha]at h;rcases mem_cons.1 h with rfl | h2
   ·exact ha
   ·exact ih h2
  ·rw[takeWhile_cons_of_neg ha]at h;cases h
theorem aEt(u:List UInt8):∀n,200<n->u.foldl jm n=n:=by
 induction u with
 | nil=>intro n _;rfl
 | cons c u ih=>
  intro n h;have e:jm n c=n:=by unfold jm;rw[aU (by omega)]
  rw[foldl_cons,e];exact ih n h
theorem AQ(t:List UInt8)(i:Nat)(h:200<lu (t.take i)):lu t=lu (t.take i):=by
 have e:lu t=(t.drop i).foldl jm (lu (t.take i)):=by
  unfold lu;rw[<-foldl_append,take_append_drop]
 rw[e];exact aEt _ _ h
end Ld
namespace Ld
open Go.RowKit
variable {s:ByteArray} {k:Nat} {c:UInt8}
def Rd(w:World)(b:Nat)(s:ByteArray)(k:Nat)(bad:Bool):Prop:=w.heap[b]?=some (.cells #[.string s,.int .i64 k,.bool bad] 176 (0,0))
theorem Rd.c0{w b s k bad}(h:Rd w b s k bad):w.cell? ⟨b,0,none⟩=some (.string s):=by simp[World.cell?,show w.heap[b]?=_ from h]
theorem Rd.c1{w b s k bad}(h:Rd w b s k bad):w.cell? ⟨b,1,none⟩=some (.int .i64 k):=by simp[World.cell?,show w.heap[b]?=_ from h]
theorem Rd.c2{w b s k bad}(h:Rd w b s k bad):w.cell? ⟨b,2,none⟩=some (.bool bad):=by simp[World.cell?,show w.heap[b]?=_ from h]
theorem Rd.f1{w b s k bad}(h:Rd w b s k bad):w.frozen? ⟨b,1,none⟩=false:=by simp[World.frozen?,show w.heap[b]?=_ from h]
theorem Rd.f2{w b s k bad}(h:Rd w b s k bad):w.frozen? ⟨b,2,none⟩=false:=by simp[World.frozen?,show w.heap[b]?=_ from h]
theorem Rd.lt{w b s k bad}(h:Rd w b s k bad):b<w.heap.size:=(Array.getElem?_eq_some_iff.1 h).1
theorem Rd.set1{w b s k bad}(h:Rd w b s k bad)(k':Nat):Rd (w.setCell ⟨b,1,none⟩ (.int .i64 k')) b s k' bad:=by
 simp[Rd,World.setCell,Array.getElem?_modify,show w.heap[b]?=_ from h]
theorem Rd.set2{w b s k bad}(h:Rd w b s k bad):Rd (w.setCell ⟨b,2,none⟩ (.bool true)) b s k true:=by
 simp[Rd,World.setCell,Array.getElem?_modify,show w.heap[b]?=_ from h]
theorem Rd.drewN{w b s k bad}(h:Rd w b s k bad)(n:Nat):Rd (w.drewN n) b s k bad:=h
theorem bD(w:World)(b o:Nat)(v:Value):w.grownBy (w.setCell ⟨b,o,none⟩ v) (some b):=⟨rfl,rfl,rfl,by simp[World.setCell],fun k _ hne=>Below.heap_setCell _ _ _ _ (by intro h;exact hne (by rw[h]))⟩
theorem grown_drewN(w:World)(n:Nat)(row:Option Nat):w.grownBy (w.drewN n) row:=⟨rfl,rfl,rfl,dH _,fun _ _ _=>rfl⟩
theorem aJ{w w1 w2:World}{row:Option Nat}(h1:w.grownBy w1 row)(h2:w1.grownBy w2 row):w.grownBy w2 row:=⟨h2.os.trans h1.os,h2.tape.trans h1.tape,h2.output.trans h1.output,Nat.le_trans h1.size h2.size,fun k hk hne=>(h2.block k (Nat.lt_of_lt_of_le hk h1.size) hne).trans (h1.block k hk hne)⟩
theorem Dj(h:s.size<=k):s.data.toList[k]?=none:=getElem?_eq_none (by simpa using h)
theorem tZ(h:k<s.size):s.data.toList[k]?=some s[k]:=by
 rw[bG (by simpa using h)];rfl
theorem Fa(s:ByteArray)(c:UInt8)(k:Nat):dB s c k true=false:=rfl
theorem vS(bad:Bool)(h:s.size<=k):dB s c k bad=false:=by
 unfold dB;rw[Dj h];simp
theorem Fb(h:k<s.size)(hc:s[k]=c):dB s c k false=true:=by
 unfold dB;rw[tZ h,hc];simp
theorem Az(bad:Bool)(h:k<s.size)(hc:s[k]≠c):dB s c k bad=false:=by
 unfold dB;rw[tZ h];simp[hc]
theorem rJ(b:Nat)(s:ByteArray)(k:Nat)(bad:Bool)(c:UInt8)(w:World)(_hs:s.size<=1048576)(hr:Rd w b s k bad):Calls prog 113 #[.pointer (some ⟨b,0,none⟩),.int .u8 c.toNat] w fun e w'=>e=.returned (.bool (dB s c k bad))∧∃n,w'=w.drewN n:=by
 have c0:=hr.c0;have c1:=hr.c1;have c2:=hr.c2;clear hr
 cases bad with
 | true=>
  rw[Fa];go_enter func113,ntmps113;go_wp2;go_quiet (fail);go_wp2;go_ret;exact⟨rfl,_,rfl⟩
 | false=>
  by_cases hk:k<s.size
  ·have hi:(k:Int)<s.size:=by omega
   have hi0:(0:Int)<=(k:Int):=by omega
   have hd:=decide_eq_true hk;by_cases hc:s[k]=c
   ·have e:=Fb hk hc;rw[e];have hne:((s[k].toNat:Int)==(c.toNat:Int))=true:=by rw[hc];simp
    clear e hc;go_enter func113,ntmps113;go_wp2;go_quiet (fail);go_wp2;go_ret;exact⟨rfl,_,rfl⟩
   ·have e:=Az false hk hc;rw[e];have hne:((s[k].toNat:Int)==(c.toNat:Int))=false:=by
     rw[beq_eq_false_iff_ne];intro h;exact hc (UInt8.toNat_inj.1 (by omega))
    clear e hc;go_enter func113,ntmps113;go_wp2;go_quiet (fail);go_wp2;go_ret;exact⟨rfl,_,rfl⟩
  ·have e:dB s c k false=false:=vS false (by omega);rw[e];have hi:(s.size:Int)<=k:=by omega
   have hd:=lT hk;clear e;go_enter func113,ntmps113;go_wp2;go_quiet (fail);go_wp2;go_ret;exact⟨rfl,_,rfl⟩
theorem qK{bad:Bool}(h:dB s c k bad=true):k<s.size:=by
 rcases iK k s.size with h2 | h2
 ·exact h2
 ·rw[vS bad h2]at h;cases h
theorem vT(b:Nat)(s:ByteArray)(k:Nat)(bad:Bool)(c:UInt8)(w:World)(hs:s.size<=1048576)(hr:Rd w b s k bad):Calls prog 79 #[.pointer (some ⟨b,0,none⟩),.int .u8 c.toNat] w fun e w'=>e=.returned (.tuple #[])∧Rd w' b s (dL s c k bad).1 (dL s c k bad).2∧w.grownBy w' (some b):=by
 have c1:=hr.c1;have f1:=hr.f1;have c2:=hr.c2;have f2:=hr.f2;have mD:=rJ b s k bad c w hs hr;have HR:=qH hr;clear hr
 cases hS:dB s c k bad with
 | true=>
  have hk:=qK hS;have HM:Hd (dL s c k bad=(k+1,bad)):=qH <| by
   unfold dL;rw[hS,aP rfl]
  rw[hS]at mD;clear hS;go_enter func79,ntmps79;go_wp2_with fail;refine mD.mono ?_;rintro e w1 ⟨rfl,n,rfl⟩;clear mD;go_wp2;go_end0;rw[HM.o];exact⟨rfl,(HR.o.drewN _).set1 (k+1),aJ (grown_drewN _ _ _) (bD _ _ _ _)⟩
 | false=>
  have HM:Hd (dL s c k bad=(k,true)):=qH <| by
   unfold dL;rw[hS,aU (by simp)]
  rw[hS]at mD;clear hS;go_enter func79,ntmps79;go_wp2_with fail;refine mD.mono ?_;rintro e w1 ⟨rfl,n,rfl⟩;clear mD;go_wp2
  go_returns
  rw[HM.o];exact⟨rfl,(HR.o.drewN _).set2,aJ (grown_drewN _ _ _) (bD _ _ _ _)⟩
theorem Fe(b:Nat)(s:ByteArray)(k:Nat)(bad:Bool)(c:UInt8)(w:World)(hs:s.size<=1048576)(hr:Rd w b s k bad):Calls prog 81 #[.pointer (some ⟨b,0,none⟩),.int .u8 c.toNat] w fun e w'=>e=.returned (.bool (dB s c k bad))∧Rd w' b s (if dB s c k bad=true then k+1 else k) bad∧w.grownBy w' (some b):=by
 have c1:=hr.c1;have f1:=hr.f1;have mD:=rJ b s k bad c w hs hr;have HR:=qH hr;clear hr
 cases hS:dB s c k bad with
 | true=>
  have hk:=qK hS;rw[hS]at mD;clear hS;go_enter func81,ntmps81;go_wp2_with fail;refine mD.mono ?_;rintro e w1 ⟨rfl,n,rfl⟩;clear mD;go_wp2;go_ret;exact⟨rfl,(HR.o.drewN _).set1 (k+1),aJ (grown_drewN _ _ _) (bD _ _ _ _)⟩
 | false=>
  rw[hS]at mD;clear hS;go_enter func81,ntmps81;go_wp2_with fail;refine mD.mono ?_;rintro e w1 ⟨rfl,n,rfl⟩;clear mD;go_wp2;go_ret;exact⟨rfl,HR.o.drewN _,grown_drewN _ _ _⟩
theorem vU(b:Nat)(s:ByteArray)(k:Nat)(bad:Bool)(w:World)(hr:Rd w b s k bad):Calls prog 116 #[.pointer (some ⟨b,0,none⟩)] w fun e w'=>e=.returned (.tuple #[])∧Rd w' b s k true∧w.grownBy w' (some b):=by
 have c2:=hr.c2;have f2:=hr.f2;have HR:=qH hr;clear hr;go_enter func116,ntmps116;go_wp2;go_end0;exact⟨rfl,HR.o.set2,bD _ _ _ _⟩
theorem BA(b:Nat)(s:ByteArray)(k:Nat)(bad:Bool)(w:World)(hr:Rd w b s k bad):Calls prog 70 #[.pointer (some ⟨b,0,none⟩)] w fun e w'=>e=.returned (.bool bad)∧w'=w:=by
 have c2:=hr.c2;clear hr;go_enter func70,ntmps70;go_wp2;go_ret;exact⟨rfl,rfl⟩
theorem Ff(b:Nat)(s:ByteArray)(k:Nat)(bad:Bool)(w:World)(hs:s.size<=1048576)(hk:k<=s.size)(hr:Rd w b s k bad):Calls prog 68 #[.pointer (some ⟨b,0,none⟩)] w fun e w'=>e=.returned (.int .i64 ((s.size:Int)-(k:Int)))∧∃n,w'=w.drewN n:=by
 have c0:=hr.c0;have c1:=hr.c1;clear hr;go_enter func68,ntmps68;go_wp2;go_quiet (fail);go_wp2;go_ret;exact⟨rfl,_,rfl⟩
theorem new_any(s:ByteArray)(w:World):Calls prog 67 #[.string s] w fun e w'=>e=.returned (.agg #[.string s,.int .i64 0,.bool false])∧Below w.heap.size w w':=by
 go_enter func67,ntmps67;go_wp2;refine bodyPost_ret (v:=.agg #[.string s,.int .i64 0,.bool false]) (by simp[results,results67,go_sem]) rfl ⟨rfl,?_⟩;exact(Below.refl _ _).alloc (dH _) _
theorem Aw(c:UInt8)(w:World):Calls prog 74 #[.int .u8 c.toNat] w fun e w'=>e=.returned (.bool (O4 c))∧w'=w:=by
 by_cases h1:(97:Int)<=(c.toNat:Int)
 ·by_cases h2:(c.toNat:Int)<=100
  ·have e:O4 c=true:=by unfold O4;exact decide_eq_true ⟨by omega,by omega⟩
   rw[e];go_enter func74,ntmps74;go_wp2;go_ret;exact⟨rfl,rfl⟩
  ·have e:O4 c=false:=by unfold O4;exact lT (by omega)
   rw[e];go_enter func74,ntmps74;go_wp2;go_ret;exact⟨rfl,rfl⟩
 ·have e:O4 c=false:=by unfold O4;exact lT (by omega)
  rw[e];go_enter func74,ntmps74;go_wp2;go_ret;exact⟨rfl,rfl⟩
theorem FZ(c:UInt8)(w:World):Calls prog 138 #[.int .u8 c.toNat] w fun e w'=>e=.returned (.bool (pF c))∧w'=w:=by
 have his:=Aw c w;have hc:=c.toNat_lt
 cases hl:O4 c with
 | true=>
  have e:pF c=true:=by
   have:=of_decide_eq_true hl;unfold pF;exact decide_eq_true (by omega)
  rw[e];rw[hl]at his;clear hl e;go_enter func138,ntmps138;go_wp2_with fail;refine his.mono ?_;rintro e w1 ⟨rfl,rfl⟩;clear his;go_wp2;go_ret;exact⟨rfl,rfl⟩
 | false=>
  have hn:=of_decide_eq_false hl;rw[hl]at his;by_cases h3:(65:Int)<=(c.toNat:Int)
  ·by_cases h2:(c.toNat:Int)<=68
   ·have e:pF c=true:=by unfold pF;exact decide_eq_true (by omega)
    rw[e];clear hl e hn;go_enter func138,ntmps138;go_wp2_with fail;refine his.mono ?_;rintro e w1 ⟨rfl,rfl⟩;clear his;go_wp2;go_ret;exact⟨rfl,rfl⟩
   ·have e:pF c=false:=by unfold pF;exact lT (by omega)
    rw[e];clear hl e hn;go_enter func138,ntmps138;go_wp2_with fail;refine his.mono ?_;rintro e w1 ⟨rfl,rfl⟩;clear his;go_wp2;go_ret;refine⟨?_,rfl⟩;show Ending.returned (.bool (decide ((c.toNat:Int)<=68)))=_;rw[lT (by omega)]
  ·have e:pF c=false:=by unfold pF;exact lT (by omega)
   rw[e];clear hl e hn;go_enter func138,ntmps138;go_wp2_with fail;refine his.mono ?_;rintro e w1 ⟨rfl,rfl⟩;clear his;go_wp2;go_ret;exact⟨rfl,rfl⟩
def Xz(d:Bool)(c:UInt8):Bool:=if d=true then nX c else pF c
def Rw(d:Bool):Int:=if d=true then 2 else 1
theorem aAX(c:UInt8)(w:World):Calls prog 112 #[.int .i64 1,.int .u8 c.toNat] w fun e w'=>e=.returned (.bool (pF c))∧w'=w:=by
 have hsaid:=FZ c w;go_enter func112,ntmps112;go_wp2_with fail;refine hsaid.mono ?_;rintro e w1 ⟨rfl,rfl⟩;clear hsaid;go_wp2;go_ret;exact⟨rfl,rfl⟩
theorem YC(c:UInt8)(w:World):Calls prog 112 #[.int .i64 2,.int .u8 c.toNat] w fun e w'=>e=.returned (.bool (nX c))∧w'=w:=by
 by_cases h1:(48:Int)<=(c.toNat:Int)
 ·by_cases h2:(c.toNat:Int)<=57
  ·have e:nX c=true:=by unfold nX;exact decide_eq_true ⟨by omega,by omega⟩
   rw[e];go_enter func112,ntmps112;go_wp2;go_ret;exact⟨rfl,rfl⟩
  ·have e:nX c=false:=by unfold nX;exact lT (by omega)
   rw[e];go_enter func112,ntmps112;go_wp2;go_ret;exact⟨rfl,rfl⟩
 ·have e:nX c=false:=by unfold nX;exact lT (by omega)
  rw[e];go_enter func112,ntmps112;go_wp2;go_ret;exact⟨rfl,rfl⟩
theorem Ky(d:Bool)(c:UInt8)(w:World):Calls prog 112 #[.int .i64 (Rw d),.int .u8 c.toNat] w fun e w'=>e=.returned (.bool (Xz d c))∧w'=w:=by
 cases d with
 | true=>exact YC c w
 | false=>exact aAX c w
def NJ(w:World)(b:Nat):Nat:=(intOf ((w.cell? ⟨b,1,none⟩).getD (.int .i64 0))).toNat
theorem Rd.NJ{w b s k bad}(h:Rd w b s k bad):NJ w b=k:=by unfold YtoebidlghdidoaaGreatDoor.Ld.NJ;rw[h.c1];simp[intOf]
theorem Dk{w w' b s k k' bad bad'}(h:Rd w b s k bad)(h':Rd w' b s k' bad')(h1:k<k')(h2:k<s.size):s.size-NJ w' b<s.size-NJ w b:=by rw[h.NJ,h'.NJ];omega
theorem toList_data(s:ByteArray):s.toList=s.data.toList:=by
 have:=Lib.extract_toList s 0 s.size;have h2:s.extract 0 s.size=s:=by simp
 rw[h2]at this;rw[this,drop_zero,Nat.sub_zero];refine take_of_length_le ?_;show s.data.toList.length<=s.data.size;simp
theorem fG(s:ByteArray):s.toList.isEmpty=decide (s.size=0):=by
 rw[toList_data]
 cases h:s.data.toList with
 | nil=>
  have:s.size=0:=by show s.data.size=0;rw[<-Array.length_toList,h];rfl
  simp[this]
 | cons a l=>
  have:¬s.size=0:=by show ¬s.data.size=0;rw[<-Array.length_toList,h];simp
  simp[this]
end Ld
namespace Ld
open Go.RowKit
attribute [local go_sem ↓] Go.wp_at_zero Go.wp_at_succ
variable {row:Option Nat}
theorem aIz:(prog.info? 5).map (fun i=>(i.zero,i.size,i.bytes))=some (some (.int .u8 0),1,1):=by kernel_rfl
theorem Rd.grown{w w' b s k bad}(h:Rd w b s k bad)(hg:w.grownBy w' row)(hne:some b≠row):Rd w' b s k bad:=(hg.block b h.lt hne).trans h
theorem Rd.alloc{w b s k bad}(h:Rd w b s k bad)(o:Obj):Rd (w.alloc o) b s k bad:=h.grown (World.grownBy_alloc w o none) (by simp)
theorem bg{w w1 w2:World}{row':Option Nat}(h1:w.grownBy w1 row)(h2:w1.grownBy w2 row')(hn:∀g,row'=some g->w.heap.size<=g):w.grownBy w2 row:=⟨h2.os.trans h1.os,h2.tape.trans h1.tape,h2.output.trans h1.output,Nat.le_trans h1.size h2.size,fun k hk hne=>(h2.block k (Nat.lt_of_lt_of_le hk h1.size) (fun e=>by have:=hn k e.symm;omega)).trans (h1.block k hk hne)⟩
section
variable {b:Nat} {s:ByteArray} {k p:Nat} {bad:Bool} {t:List UInt8} {w wr:World} {n:Nat}
abbrev mQ(b:Nat)(s:ByteArray)(k:Nat)(bad:Bool)(t:List UInt8)(w:World)(e:Ending)(w':World):Prop:=e=.returned (.string ⟨t.toArray⟩)∧Rd w' b s (k+t.length) bad∧w.grownBy w' (some b)
theorem nY(hp:p=k+t.length)(hr:Rd wr b s p bad)(hg:w.grownBy wr (some b)):mQ b s k bad t w (.returned (.string ⟨t.toArray⟩)) (wr.drewN n):=by
 refine⟨rfl,?_,aJ hg (grown_drewN _ _ _)⟩;rw[<-hp];exact hr.drewN n
end
theorem run_any(d:Bool)(b:Nat)(s:ByteArray)(k:Nat)(bad:Bool)(w:World)(hs:s.size<=1048576)(hks:k<=s.size)(hr:Rd w b s k bad):Calls prog 78 #[.pointer (some ⟨b,0,none⟩),.int .i64 (Rw d)] w fun e w'=>mQ b s k bad (run (Xz d) s.data.toList k) w e w':=by
 obtain⟨i0,af,hz0,hz1,hz2⟩:=info_parts aIz;obtain⟨t,ht⟩:=eX (run (Xz d) s.data.toList k);rw[<-ht];have hle:k+t.length<=s.size:=by have:=tY (Xz d) s.data.toList k (by simpa using hks);rw[<-ht]at this;simpa using this
 have hin:∀j,j<=t.length->(j<t.length↔∃c,s.data.toList[k+j]?=some c∧Xz d c=true):=fun j hj=>by rw[ht]at hj ⊢;exact LH _ _ _ _ hj
 have htk:∀j c,j<t.length->s.data.toList[k+j]?=some c->t.take (j+1)=t.take j++[c]:=fun j c hj hc=>by rw[ht]at hj ⊢;exact F8 _ _ _ _ _ hj hc
 have hhas:=Ky d;obtain⟨D,hD⟩:=eX (Rw d);obtain⟨P,hP⟩:=eX (Xz d);rw[<-hD,<-hP]at hhas;rw[<-hP]at hin;rw[<-hD];have HR:=qH hr;have Hin:=qH hin;have Htk:=qH htk;have HH:=qH hhas;have hblt:=hr.lt;clear ht hr hin htk hhas hD hP;go_enter func78,ntmps78;go_wp2
 go_loopw [5] (fun v wr=>∃j:Nat,j<=t.length∧wr.ownsRow w.heap.size 5 1 v j (Lib.byteCells (t.take j))∧Rd wr b s (k+j) bad∧w.grownBy wr (some b)) (fun _ wr=>s.size-NJ wr b)
 case atStart=>exact⟨0,Nat.zero_le _,by simpa [Lib.byteCells] using World.ownsRow_nil _ _ _ _,HR.o,World.grownBy.refl _ _⟩
 case round=>
  obtain⟨j,hj,hown,Oa,hgj⟩:=hrel;obtain⟨p,hp⟩:=eX (k+j);rw[<-hp]at Oa;have c0:=Oa.c0;have c1:=Oa.c1;have c2:=Oa.c2;have f1:=Oa.f1;have f2:=Oa.f2;have HR2:=qH Oa;have HG2:=qH hgj;have HP:=qH hp;have hps:p<=s.size:=by omega
  have hsz:=hgj.size;have hvb:=fun g h=>(hown.lt g h).1
  have Zj:∀v:Value,(∀g,v.ownBlock=some g->w.heap.size<=g)->some b≠v.ownBlock:=fun v h e=>by have:=h b e.symm;omega
  clear Oa hgj HR hp;by_cases hlt:p<s.size
  ·have Hg:=qH (Lib.data_getElem? s p hlt);have hi:(p:Int)<s.size:=by omega
   have hi0:(0:Int)<=(p:Int):=by omega
   have hd:=decide_eq_true hlt;by_cases hdg:P s[p]=true
   ·have hjt:=(Hin.o j hj).2 ⟨s[p],by rw[<-HP.o];exact Hg.o,hdg⟩;go_wp2;go_quiet ((go_at_call 112;exact Calls.quiet_of_same (HH.o _ _)));go_wp2_with fail;have hown':(wr.drewN nq).ownsRow w.heap.size 5 1 u5 j (Lib.byteCells (t.take j)):=hown;have hbne:=Zj u5 hvb
    go_region_held3 (fun w'=>w'.cell? ⟨b,0,none⟩=some (.string s)∧w'.cell? ⟨b,1,none⟩=some (.int .i64 p))
     (first
      | go_keep
      | (go_split_ands;refine⟨?_,?_⟩ <;> (rw[hgrow.cell_far _ (by simp;omega) hbne];assumption)))
     ((refine step_append_lies _ (by rfl) _ _ _ (by rfl) w.heap.size 5 i0 _ 1 1 underlying100 af hz0 hz1 hz2 rfl (by omega) u5 j (Lib.byteCells (t.take j)) (by rfl) ((hown'.alloc _).drew) ⟨wr.heap.size,0,none⟩ 1 1 [.int .u8 (s[p].toNat:Int)] (by rfl) (by rfl) (World.news_of_block (cs:=#[.int .u8 (s[p].toNat:Int)]) (t:=5) (fr:=(0,0)) (heap_alloc_new (wr.drewN nq) _)) (by simp[Value.oneCell']) (by omega) (by unfold maxLen;omega) (by omega) (by simp;omega) (wr.heap.size+1) (by simp) ?_;intro gg cap w1 hown1 hgrow hat fJ))
    have hr1:=Rd.grown ((HR2.o.drewN (nq+1)).alloc _) hgrow hbne;have hg1:=bg (aJ (aJ HG2.o (grown_drewN _ (nq+1) _)) (World.grownBy_alloc _ _ _)) hgrow hvb;have d0:=hr1.c0;have d1:=hr1.c1;have e1:=hr1.f1;have HR3:=qH hr1;have HG3:=qH hg1;have YX:Hd (w1.ownsRow w.heap.size 5 1 (.slice (some ⟨gg,0,none⟩) (j+1) cap) (j+1) (Lib.byteCells (t.take (j+1)))):=by
     rw[Htk.o j s[p] hjt (by rw[<-HP.o];exact Hg.o)];show World.ownsRow _ _ _ _ _ _ _;simpa [Lib.byteCells] using hown1
    clear hown' hown hown1 hr1 hg1 hgrow hbne c0 c1 c2 f1 f2 hat hvb Zj af hz0 hz1 hz2;go_wp2
    go_roundw
    case rel=>
     refine⟨j+1,by omega,ownsRow_setCell_below YX.o (by simpa using hblt) _,?_,?_⟩
     ·have e:k+(j+1)=p+1:=by have:=HP.o;omega
      rw[e];exact HR3.o.set1 (p+1)
     ·exact aJ HG3.o (bD _ _ _ _)
    case measure=>exact Dk HR2.o (HR3.o.set1 (p+1)) (by omega) hlt
   ·have hdf:P s[p]=false:=by simpa using hdg
    have hjt:¬j<t.length:=fun h=>by
     obtain⟨c,h1,h2⟩:=(Hin.o j hj).1 h;rw[<-HP.o,Hg.o]at h1;cases h1;exact hdg h2
    obtain rfl:j=t.length:=by omega
    clear hjt hdg Hg;go_wp2;go_quiet ((go_at_call 112;exact Calls.quiet_of_same (HH.o _ _)));rw[take_length]at hown;rcases hown.2 with ⟨rfl,h0⟩ | ⟨g,cap,cur,rfl,-,-,-,-,-,-⟩
    ·have hcv:∀wx,(convert 100 9 (.slice none 0 0)).run prog wx=.ok (.string ⟨#[]⟩) wx:=fun wx=>by rw[run_convert_bytes_string wx 100 9 5 none 0 0 underlying100 underlying5 underlying9];rfl
     obtain rfl:t=[]:=eq_nil_of_length_eq_zero h0;go_wp2;go_ret;exact nY HP.o HR2.o HG2.o
    ·have hcv1:=run_convert_bytes_back (P:=prog) (wr.drewN nq) 100 9 5 ⟨g,0,none⟩ cap t underlying100 underlying5 underlying9 (fun j hj=>hown.cells (g:=g) rfl j _ (by simp[Lib.byteCells,hj]));go_wp2;go_ret;exact nY HP.o HR2.o HG2.o
  ·obtain rfl:j=t.length:=by have:=HP.o;omega
   have hd:=lT hlt;go_wp2;go_quiet ((go_at_call 112;exact Calls.quiet_of_same (HH.o _ _)));rw[take_length]at hown;rcases hown.2 with ⟨rfl,h0⟩ | ⟨g,cap,cur,rfl,-,-,-,-,-,-⟩
   ·have hcv:∀wx,(convert 100 9 (.slice none 0 0)).run prog wx=.ok (.string ⟨#[]⟩) wx:=fun wx=>by rw[run_convert_bytes_string wx 100 9 5 none 0 0 underlying100 underlying5 underlying9];rfl
    obtain rfl:t=[]:=eq_nil_of_length_eq_zero h0;go_wp2;go_ret;exact nY HP.o HR2.o HG2.o
   ·have hcv1:=run_convert_bytes_back (P:=prog) (wr.drewN nq) 100 9 5 ⟨g,0,none⟩ cap t underlying100 underlying5 underlying9 (fun j hj=>hown.cells (g:=g) rfl j _ (by simp[Lib.byteCells,hj]));go_wp2;go_ret;exact nY HP.o HR2.o HG2.o
theorem Fg(b:Nat)(s:ByteArray)(k:Nat)(bad:Bool)(w:World)(hs:s.size<=1048576)(hk:k<=s.size)(hr:Rd w b s k bad):Calls prog 78 #[.pointer (some ⟨b,0,none⟩),.int .i64 1] w fun e w'=>mQ b s k bad (run pF s.data.toList k) w e w':=run_any false b s k bad w hs hk hr
theorem YD(b:Nat)(s:ByteArray)(k:Nat)(bad:Bool)(w:World)(hs:s.size<=1048576)(hk:k<=s.size)(hr:Rd w b s k bad):Calls prog 78 #[.pointer (some ⟨b,0,none⟩),.int .i64 2] w fun e w'=>mQ b s k bad (run nX s.data.toList k) w e w':=run_any true b s k bad w hs hk hr
end Ld
end Go.Proofs.YtoebidlghdidoaaGreatDoor
