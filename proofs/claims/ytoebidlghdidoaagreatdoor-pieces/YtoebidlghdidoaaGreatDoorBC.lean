import Derived.Test.YtoebidlghdidoaaGreatDoorBB
import Derived.Lib.Hide
set_option maxHeartbeats 2000000
set_option maxRecDepth 100000
namespace Go.Proofs.YtoebidlghdidoaaGreatDoor
open M2 Tryz List
section
open Go.RowKit
attribute [local go_sem ↓] Go.wp_at_zero Go.wp_at_succ
variable {r:List iL × Nat × Nat} {w1:World}
theorem MQ{limit:Nat}{l:List UInt8}(h:M3.compile limit l=some r):∃rs line er,aI.cZ 1000 l 0 []=some (rs,line,er)∧((¬er=0∧r=([],line,er))∨(er=0∧0<rs.length∧((M3.view rs=some none∧r=([],0,3))∨∃v,M3.view rs=some (some v)∧((∃aC,M3.states v limit=some (some aC)∧aC.length<=1000∧r=(aC,0,0))∨(M3.states v limit=some none∧((∃x,M3.find v=some (some x)∧r=([],0,4))∨(M3.find v=some none∧r=([],0,5)))))))):=by
 unfold M3.compile at h;split at h
 ·cases h
 ·rename_i rs line er hr;refine⟨rs,line,er,hr,?_⟩;split at h
  ·rename_i he;exact Or.inl ⟨he,(dY h).symm⟩
  ·rename_i he;split at h
   ·cases h
   ·rename_i hl;refine Or.inr ⟨Decidable.not_not.1 he,by omega,?_⟩;split at h
    ·cases h
    ·rename_i hv;exact Or.inl ⟨hv,(dY h).symm⟩
    ·rename_i v hv;refine Or.inr ⟨v,hv,?_⟩;split at h
     ·cases h
     ·rename_i aC hs;split at h
      ·rename_i hc;exact Or.inl ⟨aC,hs,hc,(dY h).symm⟩
      ·cases h
     ·rename_i hs;refine Or.inr ⟨hs,?_⟩;split at h
      ·cases h
      ·rename_i x hf;exact Or.inl ⟨x,hf,(dY h).symm⟩
      ·rename_i hf;exact Or.inr ⟨hf,(dY h).symm⟩
theorem Mod.six{w:World}(h:Mod No w w1)(v0 v1 v2 v3 v4 v5:Value):Mod No w ((((((w1.setCell (J w.heap.size 0) v0).setCell (J w.heap.size 1) v1).setCell (J w.heap.size 2) v2).setCell (J w.heap.size 3) v3).setCell (J w.heap.size 4) v4).setCell (J w.heap.size 5) v5):=(((((h.setCell (a:=J w.heap.size 0) (fun e=>absurd e (Nat.lt_irrefl _)) _).setCell (a:=J w.heap.size 1) (fun e=>absurd e (Nat.lt_irrefl _)) _).setCell (a:=J w.heap.size 2) (fun e=>absurd e (Nat.lt_irrefl _)) _).setCell (a:=J w.heap.size 3) (fun e=>absurd e (Nat.lt_irrefl _)) _).setCell (a:=J w.heap.size 4) (fun e=>absurd e (Nat.lt_irrefl _)) _).setCell (a:=J w.heap.size 5) (fun e=>absurd e (Nat.lt_irrefl _)) _
theorem lC.six{b m:Nat}{aC:List iL}{cs:List Value}(h:lC w1 m aC)(hb:aG w1 b cs 42)(v0 v1 v2 v3 v4 v5:Value):lC ((((((w1.setCell (J b 0) v0).setCell (J b 1) v1).setCell (J b 2) v2).setCell (J b 3) v3).setCell (J b 4) v4).setCell (J b 5) v5) m aC:=by
 obtain⟨v,h1,h2⟩:=h;have hm:Mod (fun k=>k=b) w1 ((((((w1.setCell (J b 0) v0).setCell (J b 1) v1).setCell (J b 2) v2).setCell (J b 3) v3).setCell (J b 4) v4).setCell (J b 5) v5):=((((((Mod.refl (fun k=>k=b) _).setCell (a:=J b 0) (fun _=>rfl) _).setCell (a:=J b 1) (fun _=>rfl) _).setCell (a:=J b 2) (fun _=>rfl) _).setCell (a:=J b 3) (fun _=>rfl) _).setCell (a:=J b 4) (fun _=>rfl) _).setCell (a:=J b 5) (fun _=>rfl) _;exact⟨v,h1.mod hm (h1.diff hb (by decide)),h2.mod hm (fun g hg e=>hb.apart h2 (by decide) (by rw[hg,e]))⟩
theorem wG(w:World)(s:ByteArray)(hs:s.size<=1048576)(limit:Nat)(hl1:1<=limit)(hl2:limit<=200)(hM:M3.compile limit s.data.toList=some r):J1 11 #[.string s,I limit] w fun e w'=>aFP s.data.toList r w e w':=by
 obtain⟨rs,line,er,hread,hcase⟩:=MQ hM;have H9:=qH fun wx=>TA s wx hs hread
 have aIs:¬(limit:Int)<1:=by omega
 have aIt:¬(200:Int)<(limit:Int):=by omega
 have Q8:=qH hread;generalize s.data.toList=sl at Q8 ⊢;clear hread hM hs;go_enter func11,ntmps11;go_wp2_with fail;have HW1:Hd (Mod No w (w.alloc (.cells #[I 0,.string ⟨#[]⟩,.string ⟨#[]⟩,.string ⟨#[]⟩,.string ⟨#[]⟩,I 0] 42))∧aG (w.alloc (.cells #[I 0,.string ⟨#[]⟩,.string ⟨#[]⟩,.string ⟨#[]⟩,.string ⟨#[]⟩,I 0] 42)) w.heap.size U5 42):=⟨(Mod.refl _ _).alloc _,heap_alloc_new w _⟩;generalize w.alloc (.cells #[I 0,.string ⟨#[]⟩,.string ⟨#[]⟩,.string ⟨#[]⟩,.string ⟨#[]⟩,I 0] 42)=W1 at HW1 ⊢;refine(H9.o _).mono ?_;rintro e w2 ⟨m2,vr,fB,rfl,aAV,xZ,hr4⟩;have HW2:=qH (a2 (HW1.o.1.no m2) (HW1.o.2.mod m2 (fun x=>x)));clear m2 HW1 H9;rcases hcase with ⟨he,hr⟩ | ⟨he,hl0,hcase⟩
 ·have heq:((er:Int)==0)=false:=by rw[beq_eq_false_iff_ne];omega
  have u0:=HW2.o.2.cell 0 rfl;have u1:=HW2.o.2.cell 1 rfl;have u2:=HW2.o.2.cell 2 rfl;have u3:=HW2.o.2.cell 3 rfl;have u4:=HW2.o.2.cell 4 rfl;have u5:=HW2.o.2.cell 5 rfl;have f0:=HW2.o.2.free 0;have f1:=HW2.o.2.free 1;have f2:=HW2.o.2.free 2;have f3:=HW2.o.2.free 3;have f4:=HW2.o.2.free 4;have f5:=HW2.o.2.free 5;have HR:=qH (a2 hr he);clear aAV xZ hr4 hr he;go_wp2;refine bodyPost_ret (v:=.tuple #[.pointer none,.agg #[I line,.string ⟨#[]⟩,.string ⟨#[]⟩,.string ⟨#[]⟩,.string ⟨#[]⟩,I 0],I er]) (by simp[results,results11,go_sem,u0,u1,u2,u3,u4,u5]) rfl ?_;rw[HR.o.1];exact⟨HW2.o.1.six _ _ _ _ _ _,Or.inr ⟨HR.o.2,_,_,_,_,_,rfl,fun rs' v' x' h1 _ _=>by rw[Q8.o]at h1;cases h1;exact absurd rfl HR.o.2⟩⟩
 ·subst he;have hp0:0<fB.length:=by rw[<-length_map (f:=Prod.fst),aAV];exact hl0
  have hp4:fB.length<=4:=by rw[<-length_map (f:=Prod.fst),aAV];exact hr4
  have H10:=qH fun res (hv:M3.view rs=some res)=>QH w2 _ vr fB xZ hp4 hp0 (by rw[aAV];exact hv)
  clear aAV xZ hr4 hl0 hp0 hp4;rcases hcase with ⟨hv,hr⟩ | ⟨v,hv,hcase⟩
  ·have h10:=H10.o _ hv;have HR:=qH hr;have HVW:=qH hv;clear hv H10 hr;go_wp2_with fail;refine h10.mono ?_;rintro e w3 ⟨m3,rfl⟩;have iq:=qH (a2 (HW2.o.1.no m3) (HW2.o.2.mod m3 (fun x=>x)));have u0:=iq.o.2.aS 0 rfl;have u1:=iq.o.2.aS 1 rfl;have u2:=iq.o.2.aS 2 rfl;have u3:=iq.o.2.aS 3 rfl;have u4:=iq.o.2.aS 4 rfl;have u5:=iq.o.2.aS 5 rfl;have f0:=iq.o.2.dQ 0;have f1:=iq.o.2.dQ 1;have f2:=iq.o.2.dQ 2;have f3:=iq.o.2.dQ 3;have f4:=iq.o.2.dQ 4;have f5:=iq.o.2.dQ 5;have hwn:¬w.heap.size=w3.heap.size:=by have:=iq.o.2.lt;omega
   clear h10 m3 HW2;go_wp2;refine bodyPost_ret (v:=.tuple #[.pointer none,.agg #[I 0,.string ⟨#[]⟩,.string ⟨#[]⟩,.string ⟨#[]⟩,.string ⟨#[]⟩,I 0],I 3]) (by simp[results,results11,go_sem,u0,u1,u2,u3,u4,u5]) rfl ?_;rw[HR.o];exact⟨(iq.o.1.alloc _).six _ _ _ _ _ _,Or.inr ⟨by decide,_,_,_,_,_,rfl,fun rs' v' x' h1 h2 _=>by rw[Q8.o]at h1;cases h1;rw[HVW.o]at h2;cases h2⟩⟩
  ·have h10:=H10.o _ hv;have HVW:=qH hv;clear hv H10;go_wp2_with fail;refine h10.mono ?_;rintro e w3 ⟨m3,ka,kw,kh,kd,rfl,hvp⟩;obtain⟨a1,n1,c1,e1⟩:=hvp.ah.sl;obtain⟨a2,n2,c2,e2⟩:=hvp.wo.sl;obtain⟨a3,n3,c3,e3⟩:=hvp.hi.sl;obtain⟨a4,n4,c4,e4⟩:=hvp.de.sl;rw[e1,e2,e3,e4];obtain⟨w4,hw4⟩:∃x,w3.alloc (.cells #[.slice a1 n1 c1,.slice a2 n2 c2,.slice a3 n3 c3,.slice a4 n4 c4] 86)=x:=⟨_,rfl⟩;have P6:Mod No w3 w4:=by rw[<-hw4];exact(Mod.refl _ _).alloc _
   have iq:Hd (Mod No w w4∧aG w4 w.heap.size U5 42∧aG w4 w3.heap.size [.slice a1 n1 c1,.slice a2 n2 c2,.slice a3 n3 c3,.slice a4 n4 c4] 86):=⟨(HW2.o.1.no m3).no P6,(HW2.o.2.mod m3 (fun x=>x)).mod P6 (fun x=>x),by rw[<-hw4];exact heap_alloc_new w3 _⟩;have HV:=qH (hvp.no P6);have HE:Hd (ka=.slice a1 n1 c1∧kw=.slice a2 n2 c2∧kh=.slice a3 n3 c3∧kd=.slice a4 n4 c4):=⟨e1,e2,e3,e4⟩;have H11:Hd (∀res,M3.states v limit=some res->J1 33 #[.agg #[.slice a1 n1 c1,.slice a2 n2 c2,.slice a3 n3 c3,.slice a4 n4 c4],I limit] w4 fun e w'=>aCX res w4 e w'):=fun res hs=>by
    have:=QR w4 v _ ka kw kh kd HV.o limit (by omega) hs
    rwa [HE.o.1,HE.o.2.1,HE.o.2.2.1,HE.o.2.2.2]at this
   have y0:=iq.o.2.2.cell 0 rfl;have y1:=iq.o.2.2.cell 1 rfl;have y2:=iq.o.2.2.cell 2 rfl;have y3:=iq.o.2.2.cell 3 rfl;clear h10 m3 HW2 e1 e2 e3 e4 hvp P6;rcases hcase with ⟨aC,hst,hsl,hr⟩ | ⟨hst,hcase⟩
   ·have h11:=H11.o _ hst;have HR:=qH hr;have HSL:=qH hsl;clear hst hr hsl H11;go_wp2_with fail;refine h11.mono ?_;rintro e w5 ⟨m5,vt,rfl,hrow,-⟩;have h12:=Ho w5 vt aC hrow HSL.o;obtain⟨at',nt,ct,et⟩:=hrow.sl;have HW5:Hd (Mod No w w5∧aG w5 w.heap.size U5 42):=⟨iq.o.1.no m5,iq.o.2.1.mod m5 (fun x=>x)⟩;rw[et]at h12 ⊢;clear h11 m5 hrow iq y0 y1 y2 y3 hw4 et;go_wp2_with fail;refine h12.mono ?_;rintro e w6 ⟨m,rfl,aC1,m6⟩;have PO:Hd (Mod No w w6∧aG w6 w.heap.size U5 42∧lC w6 m aC):=⟨HW5.o.1.no m6,HW5.o.2.mod m6 (fun x=>x),aC1⟩;clear h12 aC1 m6 HW5;have u0:=PO.o.2.1.cell 0 rfl;have u1:=PO.o.2.1.cell 1 rfl;have u2:=PO.o.2.1.cell 2 rfl;have u3:=PO.o.2.1.cell 3 rfl;have u4:=PO.o.2.1.cell 4 rfl;have u5:=PO.o.2.1.cell 5 rfl;have f0:=PO.o.2.1.free 0;have f1:=PO.o.2.1.free 1;have f2:=PO.o.2.1.free 2;have f3:=PO.o.2.1.free 3;have f4:=PO.o.2.1.free 4;have f5:=PO.o.2.1.free 5;go_wp2;refine bodyPost_ret (v:=.tuple #[Jx m 0,.agg #[I 0,.string ⟨#[]⟩,.string ⟨#[]⟩,.string ⟨#[]⟩,.string ⟨#[]⟩,I 0],I 0]) (by simp[results,results11,go_sem,u0,u1,u2,u3,u4,u5]) rfl ?_;rw[HR.o];exact⟨PO.o.1.six _ _ _ _ _ _,Or.inl ⟨rfl,m,rfl,PO.o.2.2.six PO.o.2.1 _ _ _ _ _ _⟩⟩
   ·have h11:=H11.o _ hst;have H13:Hd (∀res wx,M3.find v=some res->Mod No w4 wx->J1 35 #[.agg #[.slice a1 n1 c1,.slice a2 n2 c2,.slice a3 n3 c3,.slice a4 n4 c4]] wx fun e w'=>e=.returned (wiR res)∧Mod No wx w'):=fun res wx hs hm=>by
     have:=aAQ wx v _ ka kw kh kd (HV.o.no hm) hs
     rwa [HE.o.1,HE.o.2.1,HE.o.2.2.1,HE.o.2.2.2]at this
    clear hst H11;go_wp2_with fail;refine h11.mono ?_;rintro e w5 ⟨m5,rfl⟩;have HW5:Hd (Mod No w w5∧aG w5 w.heap.size U5 42):=⟨iq.o.1.no m5,iq.o.2.1.mod m5 (fun x=>x)⟩;have hY:=iq.o.2.2.mod m5 (fun x=>x);have aCy:=qH fun res (hs:M3.find v=some res)=>H13.o res w5 hs m5
    clear h11 m5 iq y0 y1 y2 y3 hw4 H13 HV;have y0:=hY.cell 0 rfl;have y1:=hY.cell 1 rfl;have y2:=hY.cell 2 rfl;have y3:=hY.cell 3 rfl;clear hY;rcases hcase with ⟨x,hf,hr⟩ | ⟨hf,hr⟩
    ·have h13:=aCy.o _ hf;have HR:=qH hr;obtain⟨S1,hS1⟩:=eX (⟨x.x.toArray⟩:ByteArray);obtain⟨S2,hS2⟩:=eX (⟨x.y.toArray⟩:ByteArray);obtain⟨S3,hS3⟩:=eX (⟨x.z1.toArray⟩:ByteArray);obtain⟨S4,hS4⟩:=eX (⟨x.z2.toArray⟩:ByteArray);have hwi:wiR (some x)=.tuple #[.agg #[.string S1,.string S2,.string S3,.string S4,I x.c],.bool true]:=by rw[hS1,hS2,hS3,hS4];rfl
     rw[hwi]at h13;have HF:=qH (a5 hf hS1 hS2 hS3 hS4);clear hf hr aCy hwi hS1 hS2 hS3 hS4;go_wp2_with fail;refine h13.mono ?_;rintro e w6 ⟨rfl,m6⟩;obtain⟨w7,hw7⟩:∃y,w6.alloc (.cells #[.string S1,.string S2,.string S3,.string S4,I x.c] 40)=y:=⟨_,rfl⟩;have aEs:Mod No w6 w7:=by rw[<-hw7];exact(Mod.refl _ _).alloc _
     have xJ:Hd (Mod No w w7∧aG w7 w.heap.size U5 42∧aG w7 w6.heap.size [.string S1,.string S2,.string S3,.string S4,I x.c] 40):=⟨(HW5.o.1.no m6).no aEs,(HW5.o.2.mod m6 (fun x=>x)).mod aEs (fun x=>x),by rw[<-hw7];exact heap_alloc_new w6 _⟩;have z0:=xJ.o.2.2.cell 0 rfl;have z1:=xJ.o.2.2.cell 1 rfl;have z2:=xJ.o.2.2.cell 2 rfl;have z3:=xJ.o.2.2.cell 3 rfl;have z4:=xJ.o.2.2.cell 4 rfl;have u0:=xJ.o.2.1.cell 0 rfl;have u1:=xJ.o.2.1.cell 1 rfl;have u2:=xJ.o.2.1.cell 2 rfl;have u3:=xJ.o.2.1.cell 3 rfl;have u4:=xJ.o.2.1.cell 4 rfl;have u5:=xJ.o.2.1.cell 5 rfl;have f0:=xJ.o.2.1.free 0;have f1:=xJ.o.2.1.free 1;have f2:=xJ.o.2.1.free 2;have f3:=xJ.o.2.1.free 3;have f4:=xJ.o.2.1.free 4;have f5:=xJ.o.2.1.free 5;clear h13 m6 HW5 y0 y1 y2 y3 aEs;go_wp2_with fail
     go_region
     all_goals
      clear hw7;go_wp2;refine bodyPost_ret (v:=.tuple #[.pointer none,.agg #[I 0,.string S1,.string S2,.string S3,.string S4,I x.c],I 4]) (by simp[results,results11,go_sem,u0,u1,u2,u3,u4,u5]) rfl ?_;rw[HR.o];exact⟨(xJ.o.1.six _ _ _ _ _ _).drew,Or.inr ⟨by decide,_,_,_,_,_,rfl,fun rs' v' x' h1 h2 h3=>by rw[Q8.o]at h1;cases h1;rw[HVW.o]at h2;cases h2;rw[HF.o.1]at h3;cases h3;exact⟨HF.o.2.1,HF.o.2.2.1,HF.o.2.2.2.1,HF.o.2.2.2.2,rfl⟩⟩⟩
    ·have h13:=aCy.o _ hf;have HR:=qH hr;have HF:=qH hf;have hwi:wiR none=.tuple #[.agg #[.string ⟨#[]⟩,.string ⟨#[]⟩,.string ⟨#[]⟩,.string ⟨#[]⟩,I 0],.bool false]:=rfl;rw[hwi]at h13;clear hf hr aCy hwi;go_wp2_with fail;refine h13.mono ?_;rintro e w6 ⟨rfl,m6⟩;have xJ:Hd (Mod No w w6∧aG w6 w.heap.size U5 42):=⟨HW5.o.1.no m6,HW5.o.2.mod m6 (fun x=>x)⟩;have u0:=xJ.o.2.aS 0 rfl;have u1:=xJ.o.2.aS 1 rfl;have u2:=xJ.o.2.aS 2 rfl;have u3:=xJ.o.2.aS 3 rfl;have u4:=xJ.o.2.aS 4 rfl;have u5:=xJ.o.2.aS 5 rfl;have f0:=xJ.o.2.dQ 0;have f1:=xJ.o.2.dQ 1;have f2:=xJ.o.2.dQ 2;have f3:=xJ.o.2.dQ 3;have f4:=xJ.o.2.dQ 4;have f5:=xJ.o.2.dQ 5;have hwn:¬w.heap.size=w6.heap.size:=by have:=xJ.o.2.lt;omega
     clear h13 m6 HW5 y0 y1 y2 y3;go_wp2;refine bodyPost_ret (v:=.tuple #[.pointer none,.agg #[I 0,.string ⟨#[]⟩,.string ⟨#[]⟩,.string ⟨#[]⟩,.string ⟨#[]⟩,I 0],I 5]) (by simp[results,results11,go_sem,u0,u1,u2,u3,u4,u5]) rfl ?_;rw[HR.o];exact⟨(xJ.o.1.alloc _).six _ _ _ _ _ _,Or.inr ⟨by decide,_,_,_,_,_,rfl,fun rs' v' x' h1 h2 h3=>by rw[Q8.o]at h1;cases h1;rw[HVW.o]at h2;cases h2;rw[HF.o]at h3;cases h3⟩⟩
end
namespace Ld
open Go.RowKit
variable {w:World} {q:Nat} {a:Array Value} {t:TypeId} {α:Type}
theorem Xy(t:List UInt8)(c:UInt8):lu (t++[c])=jm (lu t) c:=by simp[lu]
theorem aAW(t:List UInt8):∀n,n<=2300->t.foldl jm n<=2300:=by
 induction t with
 | nil=>intro n h;simpa using h
 | cons c t ih=>
  intro n h;simp only[foldl_cons];refine ih _ ?_;unfold jm;have:=c.toNat_lt;split <;> omega
theorem Du(t:List UInt8):lu t<=2300:=aAW t 0 (by omega)
theorem aCz(p:UInt8->Bool)(l:List UInt8)(k:Nat):∀c∈run p l k,p c=true:=fun c h=>by
 unfold run at h;generalize l.drop k=m at h
 induction m with
 | nil=>simp at h
 | cons a m ih=>
  by_cases ha:p a=true
  ·rw[takeWhile_cons_of_pos ha]at h;rcases mem_cons.1 h with rfl | h2
   ·exact ha
   ·exact ih h2
  ·rw[takeWhile_cons_of_neg ha]at h;cases h
theorem aEt(u:List UInt8):∀n,200<n->u.foldl jm n=n:=by
 induction u with
 | nil=>intro n _;rfl
 | cons c u ih=>
  intro n h;have e:jm n c=n:=by unfold jm;rw[aU (by omega)]
  rw[foldl_cons,e];exact ih n h
theorem AQ(t:List UInt8)(i:Nat)(h:200<lu (t.take i)):lu t=lu (t.take i):=by
 have e:lu t=(t.drop i).foldl jm (lu (t.take i)):=by
  unfold lu;rw[<-foldl_append,take_append_drop]
 rw[e];exact aEt _ _ h
abbrev Rd(w:World)(b:Nat)(s:ByteArray)(k:Nat)(bad:Bool):Prop:=YtoebidlghdidoaaGreatDoor.Rd w b [] 176 s k bad
theorem new_any(s:ByteArray)(w:World):J1 67 #[.string s] w fun e w'=>e=.returned (.agg #[.string s,I 0,.bool false])∧Below w.heap.size w w':=by
 go_enter func67,ntmps67;go_wp2;refine bodyPost_ret (v:=.agg #[.string s,I 0,.bool false]) (by simp[results,results67,go_sem]) rfl ⟨rfl,?_⟩;exact(Below.refl _ _).alloc (dH _) _
theorem aAX(c:UInt8)(w:World):J1 112 #[I 1,.int .u8 c.toNat] w fun e w'=>e=.returned (.bool (pF c))∧w'=w:=by
 rw[show pF c=aI.isS c by unfold pF aI.isS aI.lG;exact Bool.decide_or _ _];exact Ky true c w
theorem YC(c:UInt8)(w:World):J1 112 #[I 2,.int .u8 c.toNat] w fun e w'=>e=.returned (.bool (nX c))∧w'=w:=by
 by_cases h1:(48:Int)<=(c.toNat:Int)
 ·by_cases h2:(c.toNat:Int)<=57
  ·have e:nX c=true:=by unfold nX;exact decide_eq_true ⟨by omega,by omega⟩
   rw[e];go_enter func112,ntmps112;go_wp2;go_ret;exact⟨rfl,rfl⟩
  ·have e:nX c=false:=by unfold nX;exact lT (by omega)
   rw[e];go_enter func112,ntmps112;go_wp2;go_ret;exact⟨rfl,rfl⟩
 ·have e:nX c=false:=by unfold nX;exact lT (by omega)
  rw[e];go_enter func112,ntmps112;go_wp2;go_ret;exact⟨rfl,rfl⟩
theorem aEu(b:Nat)(s:ByteArray)(k:Nat)(bad:Bool)(w:World)(hs:s.size<=1048576)(hr:Rd w b s k bad):J1 81 #[Jx b 0,.int .u8 45] w fun e w'=>e=.returned (.bool (dB s 45 k bad))∧Rd w' b s (if dB s 45 k bad=true then k+1 else k) bad∧w.grownBy w' (some b):=Fe b [] 176 s k bad 45 w hs hr
theorem Jq(t:List UInt8):(⟨t.toArray⟩:ByteArray).toList.isEmpty=t.isEmpty:=by rw[toList_data]
theorem pM(b:Nat)(s:ByteArray)(k:Nat)(bad:Bool)(w:World)(hs:s.size<=1048576)(hk:k<=s.size)(hr:Rd w b s k bad):J1 105 #[Jx b 0] w fun e w'=>e=.returned (.string ⟨(bW s k bad).1.toArray⟩) ∧Rd w' b s (bW s k bad).2.1 (bad||(bW s k bad).2.2)∧w.grownBy w' (some b):=by
 have iY:=aEu b s k bad w hs hr
 cases hS:dB s 45 k bad with
 | true=>
  have HM:Hd (bW s k bad=([],k+1,false)):=by
   show bW s k bad=_;unfold bW;rw[hS,aP rfl]
  rw[hS]at iY;clear hS hr;go_enter func105,ntmps105;go_wp2_with fail;refine iY.mono ?_;rintro e w1 ⟨rfl,hr1,hg1⟩;have HR1:Hd (Rd w1 b s (k+1) bad):=hr1;clear iY hr1;go_wp2_with fail;go_ret;rw[HM.o];exact⟨rfl,by simpa using HR1.o,hg1⟩
 | false=>
  obtain⟨t,ht⟩:=eX (run pF s.data.toList k);have HM:Hd (bW s k bad=(t,k+t.length,t.isEmpty)):=by
   show bW s k bad=_;unfold bW;rw[hS,aU (by simp),<-ht]
  rw[hS]at iY;have hrun:=fun wx h=>aIW 1 pF aAX b [] 176 s k bad wx hs hk h
  rw[<-ht]at hrun;clear hS hr ht;go_enter func105,ntmps105;go_wp2_with fail;refine iY.mono ?_;rintro e w1 ⟨rfl,hr1,hg1⟩;have hrun1:=hrun w1 hr1;clear iY hr1 hrun;go_wp2_with fail;refine hrun1.mono ?_;rintro e w2 ⟨rfl,hr2,hg2⟩;have hg3:=aJ hg1 hg2;clear hrun1 hg1 hg2
  cases he:t.isEmpty with
  | true=>
   have hse:(⟨t.toArray⟩:ByteArray).toList.isEmpty=true:=by rw[Jq];exact he
   have aIS:=vU b [] 176 s (k+t.length) bad w2 hr2;clear hr2;go_wp2_with fail;refine aIS.mono ?_;rintro e w3 ⟨rfl,hr3,hg4⟩;have HR3:=qH hr3;clear aIS hr3;go_wp2_with fail;go_ret;rw[HM.o,he];exact⟨rfl,by simpa using HR3.o,aJ hg3 hg4⟩
  | false=>
   have hse:(⟨t.toArray⟩:ByteArray).toList.isEmpty=false:=by rw[Jq];exact he
   have HR2:=qH hr2;clear hr2;go_wp2_with fail;go_ret;rw[HM.o,he];exact⟨rfl,by simpa using HR2.o,hg3⟩
abbrev aCA(b:Nat)(s:ByteArray)(k:Nat)(bad:Bool)(t:List UInt8)(w:World)(e:Ending)(w':World):Prop:=e=.returned (I (lu t:Int))∧Rd w' b s (k+t.length) (bad||jQ t)∧w.grownBy w' (some b)
theorem jd(b:Nat)(s:ByteArray)(k:Nat)(bad:Bool)(w:World)(hs:s.size<=1048576)(hk:k<=s.size)(hr:Rd w b s k bad):J1 106 #[Jx b 0] w fun e w'=>aCA b s k bad (run nX s.data.toList k) w e w':=by
 have hrun:=aIW 2 nX YC b [] 176 s k bad w hs hk hr;have hall:=aCz nX s.data.toList k;have hle:=tY nX s.data.toList k (by simpa using hk);obtain⟨t,ht⟩:=eX (run nX s.data.toList k);rw[<-ht]at hrun hall hle ⊢;obtain⟨D,hD⟩:∃D:ByteArray,D=⟨t.toArray⟩:=⟨_,rfl⟩;have hDs:D.size=t.length:=by rw[hD];show t.toArray.size=_;simp
 have hDt:D.data.toList=t:=by rw[hD]
 have hDg:∀i (h:i<D.size),t[i]?=some D[i]:=fun i h=>by rw[<-hDt];exact Lib.data_getElem? D i h
 have HST:Hd (∀i,i<t.length->∀h:i<D.size,(48:Int)<=(D[i].toNat:Int)∧(D[i].toNat:Int)<=57∧lu (t.take (i+1))=jm (lu (t.take i)) D[i]):=fun i hi h=>by
  have hg:=hDg i h;have hd:=hall _ (iI hg);have:=of_decide_eq_true hd;refine⟨by omega,by omega,?_⟩;rw[take_add_one,hg];exact Xy _ _
 have hlen:t.length<=1048576:=by simp at hle;omega
 have aFQ:∀e w',mQ b [] 176 s k bad t w e w'->e=.returned (.string D)∧Rd w' b s (k+t.length) bad∧w.grownBy w' (some b):=fun e w' h=>by rw[hD];exact h
 have hrun2:=hrun.mono aFQ;have hhead:∀h:0<D.size,t.head?=some D[0]:=fun h=>by rw[head?_eq_getElem?];exact hDg 0 h
 have HHD:Hd _:=hhead;clear hrun aFQ hall hle ht hr hD hDt hDg hhead;by_cases h0:D.size=0
 case' pos=>
  have hse:D.toList.isEmpty=true:=by rw[fG];exact decide_eq_true h0
  have HB:Hd (jQ t=true):=qH <| by
   have:t=[]:=eq_nil_of_length_eq_zero (by omega);rw[this];rfl
  have h1:¬(1:Int)<(D.size:Int):=by omega
  go_enter func106,ntmps106;go_wp2_with fail;refine hrun2.mono ?_;rintro e w1 ⟨rfl,hr1,hg1⟩;have aIS:=vU b [] 176 s (k+t.length) bad w1 hr1;clear hrun2 hr1;go_wp2_with fail;refine aIS.mono ?_;rintro e w2 ⟨rfl,hr2,hg2⟩;have HR2:Hd (Rd w2 b s (k+t.length) (bad||jQ t)):=qH <| by
   rw[HB.o,Bool.or_true];exact hr2
  have HG2:=qH (aJ hg1 hg2);clear aIS hr2 hg1 hg2 HB;go_wp2
 case' neg=>
  have hse:D.toList.isEmpty=false:=by rw[fG];exact lT h0
  by_cases h1:1<D.size
  case' neg=>
   have h1i:¬(1:Int)<(D.size:Int):=by omega
   have HB:Hd (jQ t=false):=qH <| by
    have hne:t.isEmpty=false:=by
     cases t with
     | nil=>have e:D.size=0:=hDs;omega
     | cons a l=>rfl
    unfold jQ;rw[hne];simp;intro h;omega
   go_enter func106,ntmps106;go_wp2_with fail;refine hrun2.mono ?_;rintro e w1 ⟨rfl,hr1,hg1⟩;have HR2:Hd (Rd w1 b s (k+t.length) (bad||jQ t)):=qH <| by
    rw[HB.o,Bool.or_false];exact hr1
   have HG2:=qH hg1;clear hrun2 hr1 hg1 HB;go_wp2
  case' pos=>
   have h1i:(1:Int)<(D.size:Int):=by omega
   have h0s:0<D.size:=by omega
   by_cases hz:((D[0].toNat:Int)==48)=true
   case' pos=>
    have HB:Hd (jQ t=true):=qH <| by
     have hd0:D[0]=48:=UInt8.toNat_inj.1 (by simp at hz;simp;omega);unfold jQ;rw[HHD.o h0s,hd0];simp;exact Or.inr (by omega)
    go_enter func106,ntmps106;go_wp2_with fail;refine hrun2.mono ?_;rintro e w1 ⟨rfl,hr1,hg1⟩;have aIS:=vU b [] 176 s (k+t.length) bad w1 hr1;clear hrun2 hr1;go_wp2_with fail;refine aIS.mono ?_;rintro e w2 ⟨rfl,hr2,hg2⟩;have HR2:Hd (Rd w2 b s (k+t.length) (bad||jQ t)):=qH <| by
     rw[HB.o,Bool.or_true];exact hr2
    have HG2:=qH (aJ hg1 hg2);clear aIS hr2 hg1 hg2 HB;go_wp2
   case' neg=>
    have hzf:((D[0].toNat:Int)==48)=false:=by simpa using hz
    have HB:Hd (jQ t=false):=qH <| by
     have hd0:¬D[0]=48:=fun h=>by rw[h]at hz;simp at hz
     have hne:t.isEmpty=false:=by
      cases t with
      | nil=>have e:D.size=0:=hDs;omega
      | cons a l=>rfl
     unfold jQ;rw[HHD.o h0s,hne];simp[hd0]
    clear hz;go_enter func106,ntmps106;go_wp2_with fail;refine hrun2.mono ?_;rintro e w1 ⟨rfl,hr1,hg1⟩;have HR2:Hd (Rd w1 b s (k+t.length) (bad||jQ t)):=qH <| by
     rw[HB.o,Bool.or_false];exact hr1
    have HG2:=qH hg1;clear hrun2 hr1 hg1 HB;go_wp2
 all_goals
  go_loop [4,5] (fun nn ii=>∃i:Nat,i<=t.length∧ii=I i∧nn=I (lu (t.take i):Int)) (fun _ ii=>t.length-(intOf ii).toNat)
  case atStart=>exact⟨0,Nat.zero_le _,rfl,rfl⟩
  case round=>
   obtain⟨i,hi,rfl,rfl⟩:=hrel;by_cases hlt:i<D.size
   ·have hil:i<t.length:=by omega
    obtain⟨hb1,hb2,hnx⟩:=HST.o i hil hlt;have rM:=qH hnx;have hnl:=Du (t.take i);have wH:=qH (AQ t i);obtain⟨m,hm⟩:=eX (lu (t.take i));rw[<-hm]at hnl rM wH ⊢;clear hm hnx;have MN:(i:Int)<D.size:=by omega
    by_cases hm2:m<=200
    ·have Ae:(m:Int)<=200:=by omega
     go_wp2
     go_round
     case rel=>
      refine⟨i+1,by omega,by go_num,?_⟩;rw[rM.o];unfold jm;rw[aP hm2];have:((m*10+(D[i].toNat-48):Nat):Int)=(m:Int)*10+((D[i].toNat:Int)-48):=by omega
      rw[this]
     case measure=>simp[intOf];omega
    ·have Ae:¬(m:Int)<=200:=by omega
     go_wp2;go_ret;rw[<-wH.o (by omega)];exact⟨rfl,HR2.o,HG2.o⟩
   ·obtain rfl:i=t.length:=by omega
    have MN:¬((t.length:Nat):Int)<(D.size:Int):=by omega
    rw[take_length];go_wp2;go_ret;exact⟨rfl,HR2.o,HG2.o⟩
theorem MR(b:Nat)(s:ByteArray)(k:Nat)(bad:Bool)(w:World)(hs:s.size<=1048576)(hr:Rd w b s k bad):J1 79 #[Jx b 0,.int .u8 32] w fun e w'=>e=.returned (.tuple #[])∧Rd w' b s (dL s 32 k bad).1 (dL s 32 k bad).2∧w.grownBy w' (some b):=vT b [] 176 s k bad 32 w hs hr
theorem MS(b:Nat)(s:ByteArray)(k:Nat)(bad:Bool)(w:World)(hs:s.size<=1048576)(hr:Rd w b s k bad):J1 79 #[Jx b 0,.int .u8 58] w fun e w'=>e=.returned (.tuple #[])∧Rd w' b s (dL s 58 k bad).1 (dL s 58 k bad).2∧w.grownBy w' (some b):=vT b [] 176 s k bad 58 w hs hr
theorem aEv(b:Nat)(s:ByteArray)(k:Nat)(bad:Bool)(w:World)(hs:s.size<=1048576)(hr:Rd w b s k bad):J1 79 #[Jx b 0,.int .u8 10] w fun e w'=>e=.returned (.tuple #[])∧Rd w' b s (dL s 10 k bad).1 (dL s 10 k bad).2∧w.grownBy w' (some b):=vT b [] 176 s k bad 10 w hs hr
def str(l:List UInt8):Value:=.string ⟨l.toArray⟩
def St.cells(q:St):Array Value:=#[Ld.str q.en,Ld.str (q.sd.getD 0 []),Ld.str (q.sd.getD 1 []),Ld.str (q.sd.getD 2 []),Ld.str (q.sd.getD 3 []),I (q.nx.getD 0 0:Nat),I (q.nx.getD 1 0:Nat),I (q.nx.getD 2 0:Nat),I (q.nx.getD 3 0:Nat)]
theorem iE(s:ByteArray)(c:UInt8)(k:Nat)(bad:Bool)(hk:k<=s.size):(dL s c k bad).1<=s.size:=by
 unfold dL;split
 ·rename_i h;exact qK h
 ·exact hk
theorem rf(s:ByteArray)(k:Nat)(bad:Bool)(hk:k<=s.size):(bW s k bad).2.1<=s.size:=by
 unfold bW;split
 ·rename_i h;exact qK h
 ·have:=tY pF s.data.toList k (by simpa using hk);simpa using this
theorem aCB(s:ByteArray)(k:Nat)(hk:k<=s.size):k+(run nX s.data.toList k).length<=s.size:=by
 have:=tY nX s.data.toList k (by simpa using hk);simpa using this
theorem BP(s:ByteArray)(k:Nat)(bad:Bool)(hk:k<=s.size):∀n,(jb s k bad n).2.1<=s.size
 | 0=>rf s k bad hk
 | n+1=>aCB s _ (iE s 58 _ _ (rf s _ _ (iE s 32 _ _ (BP s k bad hk n))))
theorem Hq(s:ByteArray)(k:Nat)(bad:Bool):∀n,(jb s k bad n).1.sd.length=n∧(jb s k bad n).1.nx.length=n
 | 0=>⟨rfl,rfl⟩
 | n+1=>by
  have:=Hq s k bad n;simp[jb,vO,this.1,this.2]
theorem aO(h:w.heap[q]?=some (.cells a t (0,0)))(i:Nat)(v:Value)(hi:a[i]?=some v):w.cell? (J q i)=some v:=by
 rw[cell_of_row w q i a t (0,0) h];exact hi
theorem bZ(h:w.heap[q]?=some (.cells a t (0,0)))(i:Nat):w.frozen? (J q i)=false:=by
 simp[World.frozen?,h]
theorem kL(h:w.heap[q]?=some (.cells a t (0,0)))(i:Nat)(v:Value):(w.setCell (J q i) v).heap[q]?=some (.cells (a.setIfInBounds i v) t (0,0)):=by
 simp[World.setCell,Array.getElem?_modify,h]
theorem aj{b:Nat}{x:Option Obj}(h:w.heap[b]?=x)(i:Nat)(v:Value)(hne:b≠q):(w.setCell (J q i) v).heap[b]?=x:=by
 rw[Below.heap_setCell _ _ _ _ hne];exact h
theorem aY{w':World}{x:Obj}{row:Option Nat}(h:w.heap[q]?=some x)(hg:w.grownBy w' row)(hne:some q≠row):w'.heap[q]?=some x:=(hg.block q (Array.getElem?_eq_some_iff.1 h).1 hne).trans h
def zero9:Array Value:=#[.string ⟨#[]⟩,.string ⟨#[]⟩,.string ⟨#[]⟩,.string ⟨#[]⟩,.string ⟨#[]⟩,I 0,I 0,I 0,I 0]
theorem len1{l:List α}(h:l.length=1):∃a,l=[a]:=by
 match l,h with | [a],_=>exact⟨a,rfl⟩
theorem Wh{l:List α}(h:l.length=2):∃a b,l=[a,b]:=by
 match l,h with | [a,b],_=>exact⟨a,b,rfl⟩
theorem ZN{l:List α}(h:l.length=3):∃a b c,l=[a,b,c]:=by
 match l,h with | [a,b,c],_=>exact⟨a,b,c,rfl⟩
theorem Hr(w:World)(o p:Obj):((w.alloc o).alloc p).heap[w.heap.size]?=some o∧((w.alloc o).alloc p).heap[w.heap.size+1]?=some p:=by
 constructor
 ·show ((w.heap.push o).push p)[w.heap.size]?=_;simp only[Array.getElem?_push,Array.size_push];rw[aU (by omega),aP trivial]
 ·show ((w.heap.push o).push p)[w.heap.size+1]?=_;simp only[Array.getElem?_push,Array.size_push];rw[aP trivial]
theorem aAY(b:Nat)(s:ByteArray)(k:Nat)(bad:Bool)(w:World)(hs:s.size<=1048576)(hk:k<=s.size)(hr:Rd w b s k bad):J1 69 #[Jx b 0] w fun e w'=>e=.returned (.agg (kX s k bad).1.cells)∧Rd w' b s (kX s k bad).2.1 (kX s k bad).2.2∧w.grownBy w' (some b):=by
 have hblt:=hr.lt;have h2:=Hr w (.cells zero9 104 (0,0)) (.cells zero9 104 (0,0));go_enter func69,ntmps69;go_wp2_with fail;refine(pM b s k bad _ hs hk ((hr.alloc _).alloc _)).mono ?_;rintro e w1 ⟨rfl,hr1,hg1⟩;have hR1:=aY h2.1 hg1 (by simp;omega);have hQ1:=aY h2.2 hg1 (by simp;omega);have q0:=aO hQ1 0 _ rfl;have q1:=bZ hQ1 0;have HR1:=qH hR1;have U2:=qH hQ1;have HRd:Hd (Rd w1 b s (jb s k bad 0).2.1 (jb s k bad 0).2.2):=hr1;have HG:=qH (aJ (aJ (World.grownBy_alloc _ _ _) (World.grownBy_alloc _ _ _)) hg1);clear hR1 hQ1 hr1 hg1 h2 hr;go_wp2
 go_loopw [4] (fun v wr=>∃n:Nat,n<=4∧v=I n∧Rd wr b s (jb s k bad n).2.1 (jb s k bad n).2.2∧wr.heap[w.heap.size]?=some (.cells zero9 104 (0,0)) ∧wr.heap[w.heap.size+1]?=some (.cells (jb s k bad n).1.cells 104 (0,0))∧w.grownBy wr (some b)) (fun v _=>4-(intOf v).toNat)
 case atStart=>
  refine⟨0,by omega,rfl,?_,?_,?_,?_⟩
  ·exact aj HRd.o _ _ (by omega)
  ·exact aj HR1.o _ _ (by omega)
  ·exact kL U2.o _ _
  ·exact bg HG.o (bD _ _ _ _) (fun g hg=>by cases hg;omega)
 case round=>
  obtain⟨n,hn,rfl,hrn,hRn,hQn,hgn⟩:=hrel;by_cases h4:n<4
  ·have hle:=BP s k bad hk n;have hln:=Hq s k bad n;obtain⟨x,hx⟩:=eX (jb s k bad n);rw[<-hx]at hrn hQn hle hln;obtain⟨n1,hn1⟩:=eX (n+1);have HX:Hd (jb s k bad n1=vO s x):=by rw[hn1,hx];exact rfl
   clear hx q0 q1 HR1 U2 HRd HG;obtain⟨⟨fin,sd,nx⟩,kk,bd⟩:=x;simp only at hle hln hrn hQn;have hQl:=(Array.getElem?_eq_some_iff.1 hQn).1;have hsh:(n=0∧sd=[]∧nx=[])∨(n=1∧∃a m,sd=[a]∧nx=[m])∨(n=2∧∃a b m o,sd=[a,b]∧nx=[m,o])∨(n=3∧∃a b c m o p,sd=[a,b,c]∧nx=[m,o,p]):=by
    match n,hln,h4 with
    | 0,h,_=>exact Or.inl ⟨rfl,eq_nil_of_length_eq_zero h.1,eq_nil_of_length_eq_zero h.2⟩
    | 1,h,_=>
     obtain⟨a,rfl⟩:=len1 h.1;obtain⟨m,rfl⟩:=len1 h.2;exact Or.inr (Or.inl ⟨rfl,a,m,rfl,rfl⟩)
    | 2,h,_=>
     obtain⟨a,b,rfl⟩:=Wh h.1;obtain⟨m,o,rfl⟩:=Wh h.2;exact Or.inr (Or.inr (Or.inl ⟨rfl,a,b,m,o,rfl,rfl⟩))
    | 3,h,_=>
     obtain⟨a,b,c,rfl⟩:=ZN h.1;obtain⟨m,o,p,rfl⟩:=ZN h.2;exact Or.inr (Or.inr (Or.inr ⟨rfl,a,b,c,m,o,p,rfl,rfl⟩))
   clear hln;rcases hsh with ⟨rfl,rfl,rfl⟩ | ⟨rfl,_,_,rfl,rfl⟩ | ⟨rfl,_,_,_,_,rfl,rfl⟩ | ⟨rfl,_,_,_,_,_,_,rfl,rfl⟩;all_goals
     go_wp2_with fail;refine(MR b s kk bd wr hs hrn).mono ?_;rintro e w2 ⟨rfl,hr2,hg2⟩;go_wp2_with fail;refine(pM b s _ _ w2 hs (iE s 32 kk bd hle) hr2).mono ?_;rintro e w3 ⟨rfl,hr3,hg3⟩;have GY:=aY (aY hRn hg2 (by simp;omega)) hg3 (by simp;omega);have MV:=aY (aY hQn hg2 (by simp;omega)) hg3 (by simp;omega);have hG3:=aJ (aJ hgn hg2) hg3;have p1:=aO MV 1 _ rfl;have r1:=bZ MV 1;have p2:=aO MV 2 _ rfl;have r2:=bZ MV 2;have p3:=aO MV 3 _ rfl;have r3:=bZ MV 3;have p4:=aO MV 4 _ rfl;have r4:=bZ MV 4;have hk3:=rf s _ (dL s 32 kk bd).2 (iE s 32 kk bd hle);go_wp2_with fail;refine(MS b s _ _ _ hs (aj hr3 _ _ (by omega))).mono ?_;rintro e w4 ⟨rfl,hr4,hg4⟩;have I8:=aY (aj (q:=w.heap.size+1) GY _ _ (by omega)) hg4 (by simp;omega);have hQ4:=aY (kL MV _ _) hg4 (by simp;omega);have hG4:=aJ (bg hG3 (bD _ _ _ _) (fun g hg=>by cases hg;omega)) hg4;go_wp2_with fail;refine(jd b s _ _ w4 hs (iE s 58 _ _ hk3) hr4).mono ?_;rintro e w5 ⟨rfl,hr5,hg5⟩;have iH:=aY I8 hg5 (by simp;omega);have Ac:=aY hQ4 hg5 (by simp;omega);have hG5:=aJ hG4 hg5;clear p1 p2 p3 p4 r1 r2 r3 r4;have p1:=aO Ac 5 _ rfl;have r1:=bZ Ac 5;have p2:=aO Ac 6 _ rfl;have r2:=bZ Ac 6;have p3:=aO Ac 7 _ rfl;have r3:=bZ Ac 7;have p4:=aO Ac 8 _ rfl;have r4:=bZ Ac 8;have Xn:Hd _:=iH;have U4:Hd _:=Ac;clear iH Ac I8 hQ4 GY MV hRn hQn;go_wp2
     go_roundw
     case rel=>
      refine⟨n1,by omega,by rw[hn1];rfl,?_,?_,?_,?_⟩
      ·rw[HX.o];exact aj hr5 _ _ (by omega)
      ·exact aj Xn.o _ _ (by omega)
      ·rw[HX.o];exact kL U4.o _ _
      ·exact bg hG5 (bD _ _ _ _) (fun g hg=>by cases hg;omega)
     case measure=>simp[intOf]
  ·obtain rfl:n=4:=by omega
   clear q0 q1 HR1 U2 HRd HG;go_wp2_with fail;refine(aEv b s _ _ wr hs hrn).mono ?_;rintro e w2 ⟨rfl,hr2,hg2⟩;have hR2:=aY hRn hg2 (by simp;omega);have hQ2:=aY hQn hg2 (by simp;omega);have HR2:Hd (Rd w2 b s (kX s k bad).2.1 (kX s k bad).2.2):=hr2;have HG2:=qH (aJ hgn hg2);obtain⟨x,hx⟩:=eX ((jb s k bad 4).1);have HX:Hd ((kX s k bad).1=x):=by rw[hx];exact rfl
   rw[<-hx]at hQ2;clear hx hRn hQn hrn hr2;obtain⟨S0,S1,S2,S3,S4,N0,N1,N2,N3,hc⟩:∃(S0 S1 S2 S3 S4:ByteArray) (N0 N1 N2 N3:Int),x.cells=#[.string S0,.string S1,.string S2,.string S3,.string S4,I N0,I N1,I N2,I N3]:=⟨_,_,_,_,_,_,_,_,_,rfl⟩;rw[hc]at hQ2;have HC:Hd ((kX s k bad).1.cells=#[.string S0,.string S1,.string S2,.string S3,.string S4,I N0,I N1,I N2,I N3]):=by
    show (kX s k bad).1.cells=_;rw[HX.o,hc]
   clear hc HX;have a0:w2.cell? ⟨w.heap.size+1,0,none⟩=some (.string S0):=aO hQ2 0 _ rfl;have b0:w2.cell? (J w.heap.size 0)=some (.string ⟨#[]⟩):=aO hR2 0 _ rfl;have f0:=bZ hR2 0;have a1:w2.cell? ⟨w.heap.size+1,1,none⟩=some (.string S1):=aO hQ2 1 _ rfl;have b1:w2.cell? (J w.heap.size 1)=some (.string ⟨#[]⟩):=aO hR2 1 _ rfl;have f1:=bZ hR2 1;have a2:w2.cell? ⟨w.heap.size+1,2,none⟩=some (.string S2):=aO hQ2 2 _ rfl;have b2:w2.cell? (J w.heap.size 2)=some (.string ⟨#[]⟩):=aO hR2 2 _ rfl;have f2:=bZ hR2 2;have a3:w2.cell? ⟨w.heap.size+1,3,none⟩=some (.string S3):=aO hQ2 3 _ rfl;have b3:w2.cell? (J w.heap.size 3)=some (.string ⟨#[]⟩):=aO hR2 3 _ rfl;have f3:=bZ hR2 3;have a4:w2.cell? ⟨w.heap.size+1,4,none⟩=some (.string S4):=aO hQ2 4 _ rfl;have b4:w2.cell? (J w.heap.size 4)=some (.string ⟨#[]⟩):=aO hR2 4 _ rfl;have f4:=bZ hR2 4;have a5:w2.cell? ⟨w.heap.size+1,5,none⟩=some (I N0):=aO hQ2 5 _ rfl;have b5:w2.cell? (J w.heap.size 5)=some (I 0):=aO hR2 5 _ rfl;have f5:=bZ hR2 5;have a6:w2.cell? ⟨w.heap.size+1,6,none⟩=some (I N1):=aO hQ2 6 _ rfl;have b6:w2.cell? (J w.heap.size 6)=some (I 0):=aO hR2 6 _ rfl;have f6:=bZ hR2 6;have a7:w2.cell? ⟨w.heap.size+1,7,none⟩=some (I N2):=aO hQ2 7 _ rfl;have b7:w2.cell? (J w.heap.size 7)=some (I 0):=aO hR2 7 _ rfl;have f7:=bZ hR2 7;have a8:w2.cell? ⟨w.heap.size+1,8,none⟩=some (I N3):=aO hQ2 8 _ rfl;have b8:w2.cell? (J w.heap.size 8)=some (I 0):=aO hR2 8 _ rfl;have f8:=bZ hR2 8;have HRR:Hd _:=hR2;clear hR2 hQ2;go_wp2;refine bodyPost_ret (v:=.agg #[.string S0,.string S1,.string S2,.string S3,.string S4,I N0,I N1,I N2,I N3]) (by simp[results,results69,go_sem,b0,b1,b2,b3,b4,b5,b6,b7,b8]) rfl ⟨by rw[HC.o],?_,?_⟩
   ·have hbn:b≠w.heap.size:=by omega
    exact aj (aj (aj (aj (aj (aj (aj (aj (aj HR2.o _ _ hbn) _ _ hbn) _ _ hbn) _ _ hbn) _ _ hbn) _ _ hbn) _ _ hbn) _ _ hbn) _ _ hbn
   ·have hn:∀g,some w.heap.size=some g->w.heap.size<=g:=fun g hg=>by cases hg;omega
    exact bg (bg (bg (bg (bg (bg (bg (bg (bg HG2.o (bD _ _ _ _) hn) (bD _ _ _ _) hn) (bD _ _ _ _) hn) (bD _ _ _ _) hn) (bD _ _ _ _) hn) (bD _ _ _ _) hn) (bD _ _ _ _) hn) (bD _ _ _ _) hn) (bD _ _ _ _) hn
end Ld
namespace Ld
open Go.RowKit
attribute [local go_sem ↓] Go.wp_at_zero Go.wp_at_succ
variable {w:World} {base size n:Nat} {e:TypeId} {v:Value} {xs:List Value}
theorem aIQ:(prog.info? 104).map (fun i=>(i.zero,i.size,i.bytes))=some (some (.agg zero9),9,112):=by kernel_rfl
def flat(aC:List St):List Value:=aC.flatMap fun q=>q.cells.toList
theorem YE(aC:List St)(q:St):flat (aC++[q])=flat aC++q.cells.toList:=by simp[flat]
theorem Q9(s:ByteArray)(c:UInt8)(k:Nat)(bad:Bool):k<=(dL s c k bad).1:=by
 unfold dL;split <;> simp
theorem aAZ(s:ByteArray)(c:UInt8)(k:Nat)(bad:Bool)(h:(dL s c k bad).2=false):(dL s c k bad).1=k+1∧s.data.toList[k]?=some c∧bad=false:=by
 unfold dL at h ⊢;split at h
 ·rename_i hc;rw[aP hc];unfold dB at hc;rw[Bool.and_eq_true]at hc;exact⟨rfl,of_decide_eq_true hc.2,h⟩
 ·cases h
theorem Qa(s:ByteArray)(k:Nat)(bad:Bool):k<=(bW s k bad).2.1:=by
 unfold bW;split <;> simp
theorem Jr(s:ByteArray)(k:Nat)(bad:Bool):∀n,k<=(jb s k bad n).2.1
 | 0=>Qa _ _ _
 | n+1=>by
  have h1:=Jr s k bad n;obtain⟨x,hx⟩:=eX (jb s k bad n);rw[<-hx]at h1;simp only[jb,<-hx,vO];have h2:=Q9 s 32 x.2.1 x.2.2;have h3:=Qa s (dL s 32 x.2.1 x.2.2).1 (dL s 32 x.2.1 x.2.2).2;have h4:=Q9 s 58 (bW s (dL s 32 x.2.1 x.2.2).1 (dL s 32 x.2.1 x.2.2).2).2.1 ((dL s 32 x.2.1 x.2.2).2||(bW s (dL s 32 x.2.1 x.2.2).1 (dL s 32 x.2.1 x.2.2).2).2.2);omega
theorem aA0(s:ByteArray)(k:Nat)(bad:Bool)(h:(kX s k bad).2.2=false):k<(kX s k bad).2.1:=by
 have h1:=Jr s k bad 4;have h2:=aAZ s 10 _ _ h;show k<(dL s 10 _ _).1;rw[h2.1];omega
theorem aA1(s:ByteArray)(k:Nat)(bad:Bool)(hk:k<=s.size):(kX s k bad).2.1<=s.size:=iE s 10 _ _ (BP s k bad hk 4)
theorem Qb(h:w.ownsRow base e size v n xs):∃a cap,v=.slice a n cap:=by
 rcases h.2 with ⟨rfl,rfl⟩ | ⟨g,cap,cur,rfl,_⟩
 ·exact⟨_,_,rfl⟩
 ·exact⟨_,_,rfl⟩
theorem own_base{base':Nat}(h:w.ownsRow base e size v n xs)(hb:base'<=base):w.ownsRow base' e size v n xs:=by
 refine⟨h.1,?_⟩;rcases h.2 with h2 | ⟨g,cap,cur,rfl,hg,r⟩
 ·exact .inl h2
 ·exact .inr ⟨g,cap,cur,rfl,Nat.le_trans hb hg,r⟩
theorem U6(s:ByteArray)(f k:Nat)(aC:List St)(h:¬k<s.size):cZ s f k aC=some aC:=by
 cases f <;> simp[cZ,h]
theorem YF(s:ByteArray)(f k:Nat)(aC:List St)(h:k<s.size)(h2:aC.length=200):cZ s f k aC=none:=by
 cases f <;> simp[cZ,h,h2]
theorem YG(s:ByteArray)(f k:Nat)(aC:List St)(h:k<s.size)(h2:(kX s k false).2.2=true):cZ s f k aC=none:=by
 cases f <;> simp[cZ,h,h2]
theorem U7(s:ByteArray)(f k:Nat)(aC:List St)(h:k<s.size)(hf:s.size-k<=f)(h2:¬aC.length=200)(h3:(kX s k false).2.2=false):∃f',f=f'+1∧cZ s f' (kX s k false).2.1 (aC++[(kX s k false).1])=cZ s f k aC:=by
 match f,hf with
 | 0,hf=>omega
 | f'+1,hf=>exact⟨f',rfl,by simp[cZ,h,h2,h3]⟩
theorem sD{B:Nat}{a:World}(h:Below B a w)(n:Nat):Below B a (w.drewN n):=⟨h.os,h.tape,h.output,h.size,h.block⟩
def zl(s:ByteArray)(w:World)(e:Ending)(w':World):Prop:=Below w.heap.size w w'∧(match cZ s s.size 0 []with
  | none=>e=.returned (.tuple #[.slice none 0 0,.bool false])
  | some aC=>aC.length<=200∧∃v,e=.returned (.tuple #[v,.bool (decide (0<aC.length))])∧w'.ownsRow w.heap.size 104 9 v aC.length (flat aC))
theorem Ht(s:ByteArray)(w:World)(hs:s.size<=1048576):J1 40 #[.string s] w fun e w'=>zl s w e w':=by
 obtain⟨i0,af,hz0,hz1,hz2⟩:=info_parts aIQ;have hnew:=new_any s w;go_enter func40,ntmps40;go_wp2_with fail;refine hnew.mono ?_;rintro e w0 ⟨rfl,hb0⟩;have hsz0:=hb0.size;clear hnew;go_wp2_with fail;obtain⟨B,hB⟩:=eX w0.heap.size;rw[<-hB];have HHB:=qH hB;have hwB:w.heap.size<=B:=by rw[hB];exact hsz0
 clear hB
 go_loopw [5] (fun v wr=>∃(f kk:Nat) (aC:List St),wr.ownsRow (B+1) 104 9 v aC.length (flat aC)∧Rd wr B s kk false∧kk<=s.size∧cZ s f kk aC=cZ s s.size 0 []∧s.size-kk<=f ∧aC.length<=200∧Below w.heap.size w wr) (fun _ wr=>s.size-NJ wr B)
 case atStart=>
  refine⟨s.size,0,[],World.ownsRow_nil _ _ _ _,?_,by omega,rfl,by omega,by simp,?_⟩
  ·rw[HHB.o];exact heap_alloc_new w0 _
  ·exact hb0.alloc hsz0 _
 case round=>
  obtain⟨f,kk,aC,hown,hrd,hkk,hM,hf,hl,hbl⟩:=hrel;obtain⟨a0,cap0,rfl⟩:=Qb hown;have aFO:=hrd.lt;have HRD:=qH hrd;have HM:=qH hM;have hleft:=Ff B [] 176 s kk false wr hs hkk hrd;clear hM;by_cases hlt:kk<s.size
  ·have hpos:(0:Int)<(s.size:Int)-(kk:Int):=by omega
   go_wp2_with fail;refine hleft.mono ?_;rintro e w5 ⟨rfl,n5,rfl⟩;clear hleft;by_cases aFR:aC.length=200
   ·have aFS:(aC.length:Int)=200:=by omega
    have e:=HM.o;rw[YF s f kk aC hlt aFR]at e;have HE:=qH e;clear e;go_wp2_with fail;go_ret2;refine⟨sD hbl _,?_⟩;rw[<-HE.o];rfl
   ·have aFS:¬(aC.length:Int)=200:=by omega
    have CU:=aAY B s kk false (wr.drewN n5) hs hkk (hrd.drewN n5);obtain⟨q,hq⟩:=eX (kX s kk false);rw[<-hq]at CU;obtain⟨⟨q,k',bd⟩,rfl⟩:∃q',q'=q:=⟨q,rfl⟩;obtain⟨S0,S1,S2,S3,S4,N0,N1,N2,N3,hc⟩:∃(S0 S1 S2 S3 S4:ByteArray) (N0 N1 N2 N3:Int),q.cells=#[.string S0,.string S1,.string S2,.string S3,.string S4,I N0,I N1,I N2,I N3]:=⟨_,_,_,_,_,_,_,_,_,rfl⟩;simp only[hc]at CU;have HQ:=qH hq;have HC:=qH hc;clear hq hc;go_wp2_with fail;refine CU.mono ?_;rintro e w2 ⟨rfl,hr2,hg2⟩;have aA2:=(sD hbl n5).grown hg2 (by simp;omega) (fun g hg=>by cases hg;omega);have hsz2:=hg2.size;have hownd:(wr.drewN n5).ownsRow (B+1) 104 9 (.slice a0 aC.length cap0) aC.length (flat aC):=hown;have hown2:=hownd.kept hg2 (by
     rcases hv:(Value.slice a0 aC.length cap0).ownBlock with _ | g
     ·exact Or.inl rfl
     ·right;intro e;have:=(hown.lt g hv).1;cases e;omega)
    have hlt2:=hr2.lt;have hne2:¬B=w2.heap.size:=by omega
    have hbad:=fun o=>BA B [] 176 s k' bd (w2.alloc o) (hr2.alloc o)
    have HBAD:Hd _:=hbad;clear hbad
    cases bd with
    | true=>
     have HE:Hd (none=cZ s s.size 0 []):=by
      show none=_;rw[<-HM.o,YG s f kk aC hlt (by rw[<-HQ.o])]
     go_wp2_with (go_at_call 70;refine(HBAD.o _).mono ?_;rintro e w' ⟨rfl,rfl⟩);go_ret2;refine⟨aA2.alloc (by omega) _,?_⟩;rw[<-HE.o];rfl
    | false=>
     have hvb:=fun g (hg:(Value.slice a0 aC.length cap0).ownBlock=some g)=>(hown.lt g hg).1
     clear hown hownd CU hrd;have HR2:=qH hr2;have HB2:=qH aA2;clear hr2 aA2 hbl hg2;go_wp2_with (first | (go_at_call 70;refine(HBAD.o _).mono ?_;rintro e w' ⟨rfl,rfl⟩) | (at_builtin;refine wpList_append_lies _ rfl _ _ 97 rfl (B+1) 104 i0 _ 9 112 underlying97 af hz0 hz1 hz2 rfl (by omega) (.slice a0 aC.length cap0) aC.length (flat aC) rfl ((hown2.alloc _).alloc _) ⟨w2.heap.size+1,0,none⟩ 1 1 [.string S0,.string S1,.string S2,.string S3,.string S4,I N0,I N1,I N2,I N3] rfl rfl ?c1 ?c2 (by omega) (by unfold maxLen;omega) (by omega) (by simp;omega) (w2.heap.size+2) (by simp) ?_))
     case c1=>exact World.news_of_block (cs:=#[.string S0,.string S1,.string S2,.string S3,.string S4,I N0,I N1,I N2,I N3]) (t:=104) (fr:=(0,0)) (Hr w2 _ _).2
     case c2=>intro u hu;simp at hu;rcases hu with rfl | rfl | rfl | rfl | rfl | rfl | rfl | rfl | rfl <;> rfl
     intro gg cap w3 hown3 hgrow hat fJ;have HR3:=qH (Rd.grown ((HR2.o.alloc _).alloc _) hgrow (fun e=>by have:=hvb _ e.symm;omega));have HB3:=qH (((HB2.o.alloc (by omega) _).alloc (by simp;omega) _).grown hgrow (by simp;omega) (fun g hg=>by have:=hvb g hg;omega));have YX:Hd (w3.ownsRow (B+1) 104 9 (Jn gg (aC.length+1) cap) (aC++[q]).length (flat (aC++[q]))):=qH <| by
      rw[YE,HC.o,length_append];exact hown3
     clear hown3 hgrow hat fJ hown2 af hz0 hz1 hz2;go_wp2;have hk':=aA1 s kk false hkk;have hgt:=aA0 s kk false (by rw[<-HQ.o]);obtain⟨f',rfl,hst⟩:=U7 s f kk aC hlt hf aFR (by rw[<-HQ.o]);rw[<-HQ.o]at hk' hgt hst
     go_roundw
     case rel=>exact⟨f',k',aC++[q],YX.o,HR3.o,hk',hst.trans HM.o,by simp only at hgt;omega,by simp;omega,HB3.o⟩
     case measure=>exact Dk HRD.o HR3.o hgt hlt
  ·have hpos:¬(0:Int)<(s.size:Int)-(kk:Int):=by omega
   have e:=HM.o;rw[U6 s f kk aC hlt]at e;have HE:=qH e;clear e;go_wp2_with fail;refine hleft.mono ?_;rintro e w5 ⟨rfl,n5,rfl⟩;clear hleft;go_wp2_with fail;go_ret2;refine⟨sD hbl _,?_⟩;rw[<-HE.o];refine⟨hl,_,?_,own_base hown (by omega)⟩;simp
end Ld
end Go.Proofs.YtoebidlghdidoaaGreatDoor
