import Derived.Test.YtoebidlghdidoaaGreatDoorAN
set_option maxHeartbeats 800000
set_option maxRecDepth 100000
namespace Go.Proofs.YtoebidlghdidoaaGreatDoor
open M2 Tryz List Go.RowKit
attribute [local go_sem ↓] Go.wp_at_zero Go.wp_at_succ
variable {m m':M2.Meet} {w7:World} {v2:Value}
structure MOk(m:M2.Meet):Prop where
 len:m.nums.length<=262145
 val:∀u∈m.nums,u<=m.met.length
 mem:∀y∈m.met,y<262145
theorem jl{x k:Nat}(h:MOk m)(hM:dZ m x=some (k,m')):MOk m'∧m'.met.length<=m.met.length+1:=by
 unfold dZ at hM
 cases hu:m.nums[x]? with
 | none=>rw[hu]at hM;cases hM
 | some u=>
  rw[hu]at hM;have hxl:=(bU hu).1
  match u,hM with
  | 0,hM=>
   simp only[Option.some.injEq,Prod.mk.injEq]at hM;obtain⟨rfl,rfl⟩:=hM;refine⟨⟨by simpa using h.len,fun u hu=>?_,fun y hy=>?_⟩,by simp⟩
   ·rcases mem_or_eq_of_mem_set hu with h1 | h1
    ·have:=h.val u h1;simp;omega
    ·simp;omega
   ·rcases mem_append.1 hy with h1 | h1
    ·exact h.mem y h1
    ·rw[mem_singleton.1 h1];have:=h.len;omega
  | u+1,hM=>
   simp only[Option.some.injEq,Prod.mk.injEq]at hM;obtain⟨rfl,rfl⟩:=hM;exact⟨h,by omega⟩
theorem XP{f:Nat->M2.Meet->Option (Nat × M2.Meet)}{m4:M2.Meet}{r:aI.R4}(h:M2.four f m=some (r,m4)):∃(Ms:Nat->M2.Meet) (Nv:Nat->Nat),Ms 0=m∧Ms 4=m4∧r=⟨Nv 0,Nv 1,Nv 2,Nv 3⟩∧∀l,l<4->f l (Ms l)=some (Nv l,Ms (l+1)):=by
 unfold M2.four at h
 cases h0:f 0 m with
 | none=>simp[h0]at h
 | some x0=>
  obtain⟨a,m1⟩:=x0;simp only[h0]at h
  cases h1:f 1 m1 with
  | none=>simp[h1]at h
  | some x1=>
   obtain⟨b,m2⟩:=x1;simp only[h1]at h
   cases h2:f 2 m2 with
   | none=>simp[h2]at h
   | some x2=>
    obtain⟨c,m3⟩:=x2;simp only[h2]at h
    cases h3:f 3 m3 with
    | none=>simp[h3]at h
    | some x3=>
     obtain⟨d,m5⟩:=x3;simp only[h3,Option.some.injEq,Prod.mk.injEq]at h;obtain⟨rfl,rfl⟩:=h;refine⟨fun l=>match l with | 0=>m | 1=>m1 | 2=>m2 | 3=>m3 | _=>m5,fun l=>match l with | 0=>a | 1=>b | 2=>c | _=>d,rfl,rfl,rfl,fun l hl=>?_⟩
     match l,hl with
     | 0,_=>exact h0
     | 1,_=>exact h1
     | 2,_=>exact h2
     | 3,_=>exact h3
def aDH(vp:Value)(x:aI.Piece):List Value:=[vp,.bool x.e,.int .u32 x.f,.int .u32 x.l]
structure WI(w:World)(vp:Value)(x:aI.Piece)(X R M A:Nat)(vn vm:Value)(m:M2.Meet)(vx vh:Value)(au:M2.Auto)(wr:World):Prop where
 net:aG wr X (aDH vp x) 132
 res:aG wr R [.slice none 0 0,.slice none 0 0] 138
 meet:zi wr M vm vn m
 kK:aG wr A [vx,vh] 138
 nx:Row nC wr vx au.nx
 hit:Row lD wr vh au.hit
 md:Mod No w wr
 om:∀g,vm.ownBlock=some g->w.heap.size<=g
 on:∀g,vn.ownBlock=some g->w.heap.size<=g
 ox:∀g,vx.ownBlock=some g->w.heap.size<=g
 oh:∀g,vh.ownBlock=some g->w.heap.size<=g
 oM:w.heap.size<=M
 oA:w.heap.size<=A
 oR:w.heap.size<=R
 nAR:A≠R
section
variable {w:World} {vp:Value} {x:aI.Piece} {X R M A:Nat} {vn vm:Value} {m:M2.Meet} {vx vh:Value} {au:M2.Auto} {wr wr':World}
theorem zi.no(h:zi wr M vm vn m)(hm:Mod No wr wr'):zi wr' M vm vn m:=⟨h.blk.mod hm (fun x=>x),h.met.no hm,h.num.no hm,h.nmb,h.nnb,h.nmn⟩
theorem WI.no(h:WI w vp x X R M A vn vm m vx vh au wr)(hm:Mod No wr wr'):WI w vp x X R M A vn vm m vx vh au wr':=⟨h.net.mod hm (fun x=>x),h.res.mod hm (fun x=>x),h.meet.no hm,h.kK.mod hm (fun x=>x),h.nx.no hm,h.hit.no hm,h.md.no hm,h.om,h.on,h.ox,h.oh,h.oM,h.oA,h.oR,h.nAR⟩
theorem WI.num{LM:Value}(h:WI w vp x X R M A vn vm m vx vh au wr)(h2:zi wr' M LM vn m')(hf:aN wr vm LM)(hm:Mod (Mt M vm vn) wr wr'):WI w vp x X R M A vn LM m' vx vh au wr':=by
 have key:∀{b:Nat} {cs:List Value} {T:Nat},aG wr b cs T->T≠245->T≠3->¬Mt M vm vn b:=fun {b cs T} hb h1 h3 hS=>by
  rcases hS with rfl | hS | hS
  ·exact hb.diff h.meet.blk h1 rfl
  ·exact hb.apart h.meet.met h3 hS
  ·exact hb.apart h.meet.num h3 hS
 refine⟨h.net.mod hm (key h.net (by decide) (by decide)),h.res.mod hm (key h.res (by decide) (by decide)),h2,h.kK.mod hm (key h.kK (by decide) (by decide)),h.nx.mod hm ?_,h.hit.mod hm ?_,h.md.own hm ?_,?_,h.on,h.ox,h.oh,h.oM,h.oA,h.oR,h.nAR⟩
 ·rintro g hg (rfl | hS | hS)
  ·exact h.meet.blk.apart h.nx (by decide) hg
  ·exact h.meet.met.apart h.nx (by decide) hS hg
  ·exact h.meet.num.apart h.nx (by decide) hS hg
 ·rintro g hg (rfl | hS | hS)
  ·exact h.meet.blk.apart h.hit (by decide) hg
  ·exact h.meet.met.apart h.hit (by decide) hS hg
  ·exact h.meet.num.apart h.hit (by decide) hS hg
 ·rintro k (rfl | hS | hS)
  ·exact h.oM
  ·exact h.om k hS
  ·exact h.on k hS
 ·intro g hg;rcases hf g hg with h3 | h3
  ·exact h.om g h3
  ·exact Nat.le_trans h.md.size h3
end
section
variable {w:World} {vp:Value} {x:aI.Piece} {X R M A:Nat} {vn vm:Value} {m:M2.Meet} {vx vh:Value} {au:M2.Auto} {wr wr':World}
theorem WI.side{S:Nat->Prop}(h:WI w vp x X R M A vn vm m vx vh au wr)(hm:Mod S wr wr')(hS:∀k,S k->w.heap.size<=k∧k≠X∧k≠R∧k≠M∧k≠A∧vm.ownBlock≠some k∧vn.ownBlock≠some k∧vx.ownBlock≠some k∧vh.ownBlock≠some k):WI w vp x X R M A vn vm m vx vh au wr':=⟨h.net.mod hm (fun e=>(hS _ e).2.1 rfl),h.res.mod hm (fun e=>(hS _ e).2.2.1 rfl),⟨h.meet.blk.mod hm (fun e=>(hS _ e).2.2.2.1 rfl),h.meet.met.mod hm (fun _g hg e=>(hS _ e).2.2.2.2.2.1 hg),h.meet.num.mod hm (fun _g hg e=>(hS _ e).2.2.2.2.2.2.1 hg),h.meet.nmb,h.meet.nnb,h.meet.nmn⟩,h.kK.mod hm (fun e=>(hS _ e).2.2.2.2.1 rfl),h.nx.mod hm (fun _g hg e=>(hS _ e).2.2.2.2.2.2.2.1 hg),h.hit.mod hm (fun _g hg e=>(hS _ e).2.2.2.2.2.2.2.2 hg),h.md.own hm (fun k e=>(hS k e).1),h.om,h.on,h.ox,h.oh,h.oM,h.oA,h.oR,h.nAR⟩
theorem WI.put{Q:Nat}{cs:List Value}(h:WI w vp x X R M A vn vm m vx vh au wr)(hQ:aG wr Q cs 102)(h0:w.heap.size<=Q)(hx:vx.ownBlock≠some Q)(j:Nat)(v:Value):WI w vp x X R M A vn vm m vx vh au (wr.setCell (J Q j) v):=by
 refine h.side (S:=fun k=>k=Q) ((Mod.refl (fun k=>k=Q) wr).setCell (a:=J Q j) (fun _=>rfl) v) ?_;rintro k rfl;exact⟨h0,hQ.diff h.net (by decide),hQ.diff h.res (by decide),hQ.diff h.meet.blk (by decide),hQ.diff h.kK (by decide),hQ.apart h.meet.met (by decide),hQ.apart h.meet.num (by decide),hx,hQ.apart h.hit (by decide)⟩
theorem WI.PK{XF:List aI.R4}(h:WI w vp x X R M A vn vm m vx vh au wr)(hg:wr.grownBy w7 vx.ownBlock)(hrow:Row nC w7 v2 XF)(hf:aN wr vx v2):WI w vp x X R M A vn vm m v2 vh ⟨XF,au.hit⟩ (w7.setCell (J A 0) v2):=by
 have kb:∀{b:Nat} {cs:List Value} {T:Nat},aG wr b cs T->T≠102->aG w7 b cs T:=fun hb ht=>hb.grown hg (fun e=>hb.apart h.nx ht e.symm)
 have kr:∀{α:Type} {E:Enc α} {v:Value} {xs:List α},Row E wr v xs->E.T≠102->Row E w7 v xs:=fun {α E v xs} hr ht=>hr.grown hg (by
  cases e:v.ownBlock with
  | none=>exact .inl rfl
  | some g=>exact .inr fun e2=>hr.apart h.nx ht e e2.symm)
 have hA:=kb h.kK (by decide);have ho:∀g,v2.ownBlock=some g->w.heap.size<=g:=fun g e=>by
  rcases hf g e with h1 | h1
  ·exact h.ox g h1
  ·exact Nat.le_trans h.md.size h1
 have hX:=kb h.net (by decide);have hR:=kb h.res (by decide);have hMb:=kb h.meet.blk (by decide);have hmt:=kr h.meet.met (by decide);have hnm:=kr h.meet.num (by decide);have hht:=kr h.hit (by decide);have sH:=h.md.own (Mod.rH (S:=fun k=>vx.ownBlock=some k) hg fun g e=>e) fun k e=>h.ox k e
 exact⟨hX.other (a:=J A 0) (hX.diff hA (by decide)) _,hR.other (a:=J A 0) (fun e=>h.nAR e.symm) _,⟨hMb.other (a:=J A 0) (hMb.diff hA (by decide)) _,hmt.other (a:=J A 0) (hA.apart hmt (by decide)) _,hnm.other (a:=J A 0) (hA.apart hnm (by decide)) _,h.meet.nmb,h.meet.nnb,h.meet.nmn⟩,hA.set 0 v2,hrow.other (a:=J A 0) (hA.apart hrow (by decide)) _,hht.other (a:=J A 0) (hA.apart hht (by decide)) _,sH.setCell (a:=J A 0) (fun e=>absurd e (by have:=h.oA;simp;omega)) _,h.om,h.on,ho,h.oh,h.oM,h.oA,h.oR,h.nAR⟩
theorem WI.PL{ht2:List Bool}(h:WI w vp x X R M A vn vm m vx vh au wr)(hg:wr.grownBy w7 vh.ownBlock)(hrow:Row lD w7 v2 ht2)(hf:aN wr vh v2):WI w vp x X R M A vn vm m vx v2 ⟨au.nx,ht2⟩ (w7.setCell (J A 1) v2):=by
 have kb:∀{b:Nat} {cs:List Value} {T:Nat},aG wr b cs T->T≠4->aG w7 b cs T:=fun hb ht=>hb.grown hg (fun e=>hb.apart h.hit ht e.symm)
 have kr:∀{α:Type} {E:Enc α} {v:Value} {xs:List α},Row E wr v xs->E.T≠4->Row E w7 v xs:=fun {α E v xs} hr ht=>hr.grown hg (by
  cases e:v.ownBlock with
  | none=>exact .inl rfl
  | some g=>exact .inr fun e2=>hr.apart h.hit ht e e2.symm)
 have hA:=kb h.kK (by decide);have ho:∀g,v2.ownBlock=some g->w.heap.size<=g:=fun g e=>by
  rcases hf g e with h1 | h1
  ·exact h.oh g h1
  ·exact Nat.le_trans h.md.size h1
 have hX:=kb h.net (by decide);have hR:=kb h.res (by decide);have hMb:=kb h.meet.blk (by decide);have hmt:=kr h.meet.met (by decide);have hnm:=kr h.meet.num (by decide);have hnx:=kr h.nx (by decide);have sH:=h.md.own (Mod.rH (S:=fun k=>vh.ownBlock=some k) hg fun g e=>e) fun k e=>h.oh k e
 exact⟨hX.other (a:=J A 1) (hX.diff hA (by decide)) _,hR.other (a:=J A 1) (fun e=>h.nAR e.symm) _,⟨hMb.other (a:=J A 1) (hMb.diff hA (by decide)) _,hmt.other (a:=J A 1) (hA.apart hmt (by decide)) _,hnm.other (a:=J A 1) (hA.apart hnm (by decide)) _,h.meet.nmb,h.meet.nnb,h.meet.nmn⟩,hA.set 1 v2,hnx.other (a:=J A 1) (hA.apart hnx (by decide)) _,hrow.other (a:=J A 1) (hA.apart hrow (by decide)) _,sH.setCell (a:=J A 1) (fun e=>absurd e (by have:=h.oA;simp;omega)) _,h.om,h.on,h.ox,ho,h.oM,h.oA,h.oR,h.nAR⟩
end
def qc(Nv:Nat->Nat)(l:Nat):List Value:=[I ((if 0<l then Nv 0 else 0:Nat):Int),I ((if 1<l then Nv 1 else 0:Nat):Int),I ((if 2<l then Nv 2 else 0:Nat):Int),I ((if 3<l then Nv 3 else 0:Nat):Int)]
theorem TD(Nv:Nat->Nat)(l:Nat)(hl:l<4):(qc Nv l).set l (I (Nv l:Int))=qc Nv (l+1):=by
 match l,hl with
 | 0,_=>rfl
 | 1,_=>rfl
 | 2,_=>rfl
 | 3,_=>rfl
theorem aCR{Ms:Nat->M2.Meet}{Nv:Nat->Nat}{f:Nat->Nat}(h0:MOk (Ms 0))(hs:∀l,l<4->dZ (Ms l) (f l)=some (Nv l,Ms (l+1))):∀l,l<=4->MOk (Ms l)∧(Ms l).met.length<=(Ms 0).met.length+l
 | 0,_=>⟨h0,by omega⟩
 | l+1,hl=>by
  have ih:=aCR h0 hs l (by omega);have:=jl ih.1 (hs l (by omega));exact⟨this.1,by omega⟩
def GV(a:M2.Auto)(w:World)(e:Ending)(w':World):Prop:=Mod No w w'∧∃vx vh,e=.returned (.agg #[vx,vh])∧Row nC w' vx a.nx∧Row lD w' vh a.hit∧(∀g,vx.ownBlock=some g->w.heap.size<=g)∧(∀g,vh.ownBlock=some g->w.heap.size<=g)∧a.nx.length=a.hit.length∧a.nx.length<=300000
theorem walk_any(w:World)(vp:Value)(base:Nat)(r:aI.Rule)(hok:DR w base r vp){a:M2.Auto}(hM:M2.walk r=some a):J1 84 #[yL vp r.wh] w fun e w'=>GV a w e w':=by
 unfold M2.walk at hM;by_cases h18:18<r.ps.length
 ·rw[aP h18]at hM;cases hM
 ·rw[aU h18]at hM;have hl:r.ps.length<=18:=by omega
  have hh:=Fq hl;have hH1:1<=fD r.ps:=by unfold fD;rw[Di];exact Nat.one_le_two_pow
  have HST:=qH fun wx (hm:Mod No w wx)=>SE wx vp r.ps r.wh (hok.row.no hm) hl
  have HSR:=qH fun wx (hm:Mod No w wx)=>XD wx vp r.ps r.wh (hok.row.no hm) hl hok.wh
  have HSP:=qH fun(wx:World) (st:Nat) (l:Nat) (hm:Mod No w wx) (hst:st<I5) (hl4:l<4)=>Oq wx vp r.ps r.wh st l (hok.row.no hm) hl hok.ps hok.wh hst hl4
  have HIS:=qH fun(wx:World) (st:Nat) (hm:Mod No w wx)=>J3 wx vp r.ps r.wh st (hok.row.no hm) hl
  obtain⟨va,kP,hvp,-,-,-⟩:=hok.row.any;generalize hvn:r.ps.length=n0 at hvp;clear hvn;generalize hs0:(if r.wh.e then fD r.ps else r.wh.f)=s0 at hM HSR;clear hs0;obtain⟨H,hHd⟩:=eX (fD r.ps);rw[<-hHd]at hM hh hH1 HST HIS;have HW:Hd (∀f i st m au,m.met[i]?=some st->kQ r.ps r.wh (f+1) i m au=match M2.four (fun l m=>dZ m (oL r.ps r.wh st l)) m with | none=>none | some (rr,m)=>kQ r.ps r.wh f (i+1) m ⟨au.nx++[rr],au.hit++[decide (st=H)]⟩):=fun f i st m au hm=>by
   rw[kQ,hm,hHd]
   dsimp only
   generalize M2.four (fun l m=>dZ m (oL r.ps r.wh st l)) m=y;cases y <;> rfl
  have HW0:Hd (∀f i m au,m.met[i]?=none->kQ r.ps r.wh (f+1) i m au=some au):=fun f i m au hm=>by rw[kQ,hm]
  have HWZ:Hd (∀i m au,kQ r.ps r.wh 0 i m au=none):=fun i m au=>by rw[kQ]
  generalize kQ r.ps r.wh=WM at hM HW HW0 HWZ;generalize oL r.ps r.wh=SN at HSP HW
  cases hn0:dZ ⟨[],replicate (H+1) 0⟩ s0 with
  | none=>rw[hn0]at hM;cases hM
  | some y=>
   obtain⟨k0,m0⟩:=y;rw[hn0]at hM;have HM:Hd (WM (H+2) 0 m0 ⟨[],[]⟩=some a):=hM;obtain⟨N,hN⟩:=eX (H+1);have hmk:=iO N (by omega);have hok0:MOk ⟨[],replicate (H+1) 0⟩:=⟨by simp;omega,fun u hu=>by rw[eq_of_mem_replicate hu];exact Nat.zero_le _,fun y hy=>by cases hy⟩;have hok1:=jl hok0 hn0;rw[<-hN]at HST hn0;have HNH:=qH hN;have HN0:=qH hn0;have aE8:Hd (MOk m0∧m0.met.length<=1):=hok1;clear hN hok0 hok1 hn0 hHd;subst hvp;clear hM hok h18;unfold yL at *;generalize r.wh=x at *;go_enter func84,ntmps84;go_wp2_with fail;refine(HST.o _ (((Mod.refl _ _).alloc _).alloc _)).mono ?_;rintro e w1 ⟨rfl,m1⟩;have hX1:aG w1 w.heap.size (aDH (.slice va n0 kP) x) 132:=aG.mod (gq w _ _) m1 (fun x=>x);have hR1:=aG.mod (fE w _ _) m1 (fun x=>x);have hm1:Mod No w w1:=(((Mod.refl _ _).alloc _).alloc _).no m1;clear m1 HST;have hb1:=hR1.lt;obtain⟨w2,hw2⟩:∃w2,(w1.alloc (.cells (Array.replicate N (I 0)) 3)).alloc (.cells #[.slice none 0 0,Jn w1.heap.size N N] 245)=w2:=⟨_,rfl⟩;have hX2:aG w2 w.heap.size (aDH (.slice va n0 kP) x) 132:=by rw[<-hw2];exact(hX1.alloc _).alloc _
   have hR2:aG w2 (w.heap.size+1) [.slice none 0 0,.slice none 0 0] 138:=by rw[<-hw2];exact(hR1.alloc _).alloc _
   have hm2:Mod No w w2:=by rw[<-hw2];exact(hm1.alloc _).alloc _
   have hI2:zi w2 (w1.heap.size+1) (.slice none 0 0) (Jn w1.heap.size N N) ⟨[],replicate N 0⟩:=by
    have hnum:Row dh w2 (Jn w1.heap.size N N) (replicate N 0):=by
     have hb:aG w2 w1.heap.size ((replicate N (0:Nat)).flatMap dh.f) 3:=by
      rw[jL,<-hw2];have:=(gq w1 (Obj.cells (Array.replicate N (I 0)) 3) (Obj.cells #[.slice none 0 0,Jn w1.heap.size N N] 245));unfold aG;rw[this];simp
     have:=Row.of_block hb (by simp;unfold maxLen;have:=HNH.o;omega);simpa using this
    refine⟨by rw[<-hw2];exact fE w1 _ _,Row.nil _ _,hnum,by simp[Value.ownBlock],by simp[Value.ownBlock],fun g hg=>by cases hg⟩
   have x0:=hX2.cell 0 rfl;have x1:=hX2.cell 1 rfl;have x2:=hX2.cell 2 rfl;have x3:=hX2.cell 3 rfl;have I7:=qH (a4 hX2 hR2 hm2 hI2);clear hX1 hR1 hm1 hX2 hR2 hm2 hI2;go_wp2_with fail;refine(HSR.o _ I7.o.2.2.1).mono ?_;rintro e w3 ⟨rfl,m3⟩;clear HSR hw2 hmk x0 x1 x2 x3;have HI3:=I7.o.2.2.2.no m3;have hok0:MOk ⟨[],replicate N 0⟩:=⟨by simp;have:=HNH.o;omega,fun u hu=>by rw[eq_of_mem_replicate hu];exact Nat.zero_le _,fun y hy=>by cases hy⟩;have hnum:=C9 w3 (w1.heap.size+1) _ _ _ m0 s0 k0 HI3 HN0.o (by simp) (by have:=hok0.len;omega) (fun u hu=>by have:=hok0.val u hu;simp at this;omega);clear HI3 hok0;go_wp2_with fail;refine hnum.mono ?_;rintro e w4 ⟨rfl,vm,mV,f4,m4⟩;clear hnum;have HI0:Hd (WI w (.slice va n0 kP) x w.heap.size (w.heap.size+1) (w1.heap.size+1) w4.heap.size (Jn w1.heap.size N N) vm m0 (.slice none 0 0) (.slice none 0 0) ⟨[],[]⟩ (w4.alloc (.cells #[.slice none 0 0,.slice none 0 0] 138))):=by
    have hX3:=I7.o.1.mod m3 (fun x=>x);have GY:=I7.o.2.1.mod m3 (fun x=>x);have zk:=I7.o.2.2.2.no m3;have key:∀{b:Nat} {cs:List Value} {T:Nat},aG w3 b cs T->T≠245->T≠3->¬Mt (w1.heap.size+1) (.slice none 0 0) (Jn w1.heap.size N N) b:=fun {b cs T} hb h1 h3 hS=>by
     rcases hS with rfl | hS | hS
     ·exact hb.diff zk.blk h1 rfl
     ·exact hb.apart zk.met h3 hS
     ·exact hb.apart zk.num h3 hS
    have hX4:=hX3.mod m4 (key hX3 (by decide) (by decide));have I8:=GY.mod m4 (key GY (by decide) (by decide));have hm4:Mod No w w4:=(I7.o.2.2.1.no m3).own m4 (by
     rintro k (rfl | hS | hS)
     ·omega
     ·cases hS
     ·have:w1.heap.size=k:=dY hS
      omega)
    have h3:=m3.size;refine⟨hX4.alloc _,I8.alloc _,mV.no ((Mod.refl _ _).alloc _),heap_alloc_new w4 _,Row.nil _ _,Row.nil _ _,hm4.alloc _,fun g hg=>?_,fun g hg=>?_,(fun g hg=>by cases hg),(fun g hg=>by cases hg),by omega,hm4.size,by omega,by have:=I8.lt;omega⟩
    ·rcases f4 g hg with h | h
     ·cases h
     ·exact Nat.le_trans (I7.o.2.2.1.no m3).size h
    ·have:w1.heap.size=g:=dY hg;omega
   clear I7 m3 mV f4 m4;go_wp2_with fail;generalize w4.alloc (.cells #[.slice none 0 0,.slice none 0 0] 138)=W0 at HI0 ⊢;generalize w4.heap.size=A at HI0 ⊢;generalize w1.heap.size+1=M at HI0 ⊢;generalize (Jn w1.heap.size N N)=vn at HI0;go_loopg [5] (H+2) (fun g v5 wr=>∃(i:Nat) (vm:Value) (m:M2.Meet) (vx vh:Value) (au:M2.Auto),v5=I i∧WI w (.slice va n0 kP) x w.heap.size (w.heap.size+1) M A vn vm m vx vh au wr∧MOk m∧m.met.length<=4*i+1∧i+g=H+2∧WM g i m au=some a∧au.nx.length=i∧au.hit.length=i)
   case atStart=>exact⟨0,vm,m0,_,_,⟨[],[]⟩,rfl,HI0.o,aE8.o.1,by have:=aE8.o.2;omega,by omega,HM.o,rfl,rfl⟩
   case round=>
    obtain⟨i,vm,m,vx,vh,au,rfl,hI,hmo,hmet,hig,hwm,hnx,hhit⟩:=hrel
    match gk,hig,hwm with
    | 0,_,hwm=>rw[HWZ.o]at hwm;cases hwm
    | g+1,hig,hwm=>
     obtain⟨ma,Ou,hvm,hma,-,-⟩:=hI.meet.met.any;generalize hmn:m.met.length=mn at hvm hmet;have c0:=hI.meet.blk.cell 0 rfl;rw[hvm]at c0;have HI:=qH hI;have HMN:=qH hmn;by_cases hlt:i<mn
     ·obtain⟨st,hst⟩:∃st,m.met[i]?=some st:=⟨m.met[i]'(by omega),bG _⟩;rw[HW.o g i st m au hst]at hwm
      cases h4:M2.four (fun l m=>dZ m (SN st l)) m with
      | none=>rw[h4]at hwm;cases hwm
      | some y=>
       obtain⟨rr,m4⟩:=y;rw[h4]at hwm;obtain⟨Ms,Nv,hM0,hM4,hrr,hsteps⟩:=XP h4;have aE9:MOk (Ms 0):=by rw[hM0];exact hmo
       have aDI:=aCR aE9 hsteps;rw[hM0]at aDI;have PN:st<I5:=by have:=hmo.mem st (iI hst);unfold I5;omega
       have HWM:Hd (WM g (i+1) m4 ⟨au.nx++[rr],au.hit++[decide (st=H)]⟩=some a):=hwm;have aDJ:Hd (∀l,l<=4->MOk (Ms l)∧(Ms l).met.length<=mn+l):=fun l hl=>by have:=aDI l hl;rw[hmn]at this;exact this
       have aB8:=qH hsteps;have HMS:=qH (a3 hM0 hM4 hrr);obtain⟨gm,rfl⟩:∃gm,ma=some (J gm 0):=by
        rcases hma with rfl | ⟨gm,rfl,_⟩
        ·rcases hI.meet.met.2 with ⟨_,h2⟩ | ⟨g1,cap',cur,h,_⟩
         ·omega
         ·rw[hvm]at h;cases h
        ·exact⟨gm,rfl⟩
       have cst:wr.cell? (J gm i)=some (I st):=by
        have:=hI.meet.met;rw[hvm]at this;exact dh.cell this hst
       have hilt:(i:Int)<mn:=by omega
       have hi0:(0:Int)<=(i:Int):=by omega
       have aGl:=qH PN;have XQ:=hI.md.size;have hxQ:vx.ownBlock≠some wr.heap.size:=fun e=>by have:=hI.nx.lt e;omega
       have HI1:Hd (∀o,o=Obj.cells #[I 0,I 0,I 0,I 0] 102->WI w (.slice va n0 kP) x w.heap.size (w.heap.size+1) M A vn vm (Ms 0) vx vh au (wr.alloc o)∧aG (wr.alloc o) wr.heap.size (qc Nv 0) 102):=fun o ho=>⟨by rw[hM0];exact hI.no ((Mod.refl _ _).alloc o),by subst ho;exact heap_alloc_new wr _⟩
       clear hwm h4 hM0 hM4 hrr hsteps aE9 aDI PN hst hI HI hmo hvm hma hmn;go_wp2_with fail;have HI1:=HI1.o _ rfl;generalize wr.alloc (.cells #[I 0,I 0,I 0,I 0] 102)=W2 at HI1 ⊢;generalize wr.heap.size=Q at HI1 XQ hxQ ⊢;have HI1:=qH HI1;clear c0 cst;go_loopg [29] 4 (fun h v29 wx=>∃(l:Nat) (LM:Value),v29=I l∧l<=4∧h=4-l∧WI w (.slice va n0 kP) x w.heap.size (w.heap.size+1) M A vn LM (Ms l) vx vh au wx∧aG wx Q (qc Nv l) 102)
       case atStart=>exact⟨0,vm,rfl,by omega,rfl,HI1.o.1,HI1.o.2⟩
       case round=>
        obtain⟨l,LM,rfl,hl4,hh4,hI,hQ⟩:=hrel;have HI:=qH hI;have HQ:=qH hQ;by_cases hl:l<4
        ·have yZ:(l:Int)<4:=by omega
         have x0:=hI.net.cell 0 rfl;have x1:=hI.net.cell 1 rfl;have x2:=hI.net.cell 2 rfl;have x3:=hI.net.cell 3 rfl;have hsp:=HSP.o wr st l hI.md aGl.o hl;have hst2:=aB8.o l hl;have hbd:=aDJ.o l (by omega);generalize SN st l=sn at hsp hst2;have Oh:Hd (∀wx,Mod No wr wx->J1 120 #[Jx M 0,I sn] wx fun e w'=>e=.returned (I (Nv l:Int))∧∃Y7,zi w' M Y7 vn (Ms (l+1))∧aN wx LM Y7∧Mod (Mt M LM vn) wx w'):=fun wx hm=>
          C9 wx M LM vn (Ms l) (Ms (l+1)) sn (Nv l) (HI.o.meet.no hm) hst2 (by omega) (by have:=hbd.1.len;omega) (fun u hu=>by have:=hbd.1.val u hu;omega)
         clear hI hQ hst2 hbd;go_wp2_with fail;refine hsp.mono ?_;rintro e w5 ⟨rfl,m5⟩;clear hsp x0 x1 x2 x3;have uF:=HI.o.no m5;have Ac:=HQ.o.mod m5 (fun x=>x);go_wp2_with fail;refine(Oh.o _ m5).mono ?_;rintro e w6 ⟨rfl,Y7,LZ,f6,m6⟩;clear Oh m5;have hW6:=uF.num LZ f6 m6;have hQ6:aG w6 Q (qc Nv l) 102:=Ac.mod m6 (by
          rintro(rfl | hS | hS)
          ·exact Ac.diff uF.meet.blk (by decide) rfl
          ·exact Ac.apart uF.meet.met (by decide) hS
          ·exact Ac.apart uF.meet.num (by decide) hS)
         have hqv:∃v,(qc Nv l)[l]?=some v:=⟨(qc Nv l)[l]'(by simp[qc];omega),bG _⟩;obtain⟨qv,hqv⟩:=hqv;have q0:=hQ6.cell l hqv;have fq:=hQ6.free l;have HQ6:=qH hQ6;have PO:=qH hW6;clear uF Ac LZ f6 m6 hW6 hQ6 hqv HI HQ;go_wp2;go_roundg (4-(l+1))
         case measure=>omega
         case rel=>exact⟨l+1,Y7,by go_num,by omega,rfl,PO.o.put HQ6.o XQ hxQ l _,by rw[<-TD Nv l hl];exact HQ6.o.set l _⟩
        ·obtain rfl:l=4:=by omega
         obtain⟨i0,af,hz0,hz1,hz2⟩:=info_parts aIC;obtain⟨xa,uT,uV,-,-,-⟩:=hI.nx.any;rw[hnx]at uV;have d0:=hI.kK.cell 0 rfl;have e0:=hI.kK.free 0;rw[uV]at d0;change aG wr Q [I (Nv 0:Int),I (Nv 1:Int),I (Nv 2:Int),I (Nv 3:Int)] 102 at hQ;have q0:=hQ.cell 0 rfl;have q1:=hQ.cell 1 rfl;have q2:=hQ.cell 2 rfl;have q3:=hQ.cell 3 rfl;have hown:wr.ownsRow 0 102 4 (.slice xa i uT) i (au.nx.flatMap nC.f):=by have:=hI.nx;unfold Row at this;rw[uV,hnx]at this;exact this
         have aDK:=hI.kK.lt;have hi2:i<=300000:=by omega
         have hAx:some A≠vx.ownBlock:=fun e=>hI.kK.apart hI.nx (by decide) e.symm
         rw[uV]at hAx;have hrow1:=HMS.o.2.2;have NK:=qH uV;clear hI hQ uV;go_wp2_with (at_builtin;refine wpList_append_lies _ rfl _ _ 80 rfl 0 102 i0 _ 4 32 underlying80 af hz0 hz1 hz2 rfl (by omega) (.slice xa i uT) i (au.nx.flatMap nC.f) rfl (hown.alloc _) (J wr.heap.size 0) 1 1 [I (Nv 0:Int),I (Nv 1:Int),I (Nv 2:Int),I (Nv 3:Int)] rfl rfl ?c1 ?c2 (by omega) (by unfold maxLen;omega) (by omega) (by simp) (wr.heap.size+1) (by simp) ?_)
         case c1=>exact World.news_of_block (cs:=#[I (Nv 0:Int),I (Nv 1:Int),I (Nv 2:Int),I (Nv 3:Int)]) (t:=102) (fr:=(0,0)) (heap_alloc_new wr _)
         case c2=>intro u hu;simp at hu;rcases hu with rfl | rfl | rfl | rfl <;> rfl
         intro gg cap2 w7 gV hgrow hat fJ;have Vr:=HI.o.no ((Mod.refl _ _).alloc (.cells #[I (Nv 0:Int),I (Nv 1:Int),I (Nv 2:Int),I (Nv 3:Int)] 102));have Cb:aN (wr.alloc (.cells #[I (Nv 0:Int),I (Nv 1:Int),I (Nv 2:Int),I (Nv 3:Int)] 102)) vx (Jn gg (i+1) cap2):=by
          intro g1 hg1;cases hg1;rcases hat with h | h
          ·exact Or.inl (by rw[NK.o];exact h)
          ·exact Or.inr (by simp;show wr.heap.size+1<=gg;omega)
         have vY:Row nC w7 (Jn gg (i+1) cap2) (au.nx++[rr]):=by
          refine Row.snoc ?_;rw[hnx,hrow1];exact gV
         have gU:=Vr.PK (by rw[NK.o];exact hgrow) vY Cb;have hA7:=Vr.kK.grown hgrow hAx;have a0:=hA7.cell 0 rfl;rw[NK.o]at a0;have b0:=hA7.free 0;obtain⟨w8,hw8⟩:∃w8,w7.setCell (J A 0) (Jn gg (i+1) cap2)=w8:=⟨_,rfl⟩;rw[hw8]at gU;obtain⟨v8,hv8⟩:=eX (Jn gg (i+1) cap2);rw[<-hv8]at gU;have gU:=qH gU;clear Vr Cb vY hA7 gV hgrow hat fJ hown d0 e0 q0 q1 q2 q3 af hz0 hz1 hz2 hAx HI HQ hv8;go_wp2;clear hw8 a0 b0;obtain⟨j0,af,hz0,hz1,hz2⟩:=info_parts aIY;obtain⟨ya,zo,uU,-,-,-⟩:=gU.o.hit.any;have uU:vh=.slice ya i zo:=by rw[uU];show Value.slice ya au.hit.length zo=_;rw[hhit]
         have NM:=qH uU;have x0:=gU.o.net.cell 0 rfl;have x1:=gU.o.net.cell 1 rfl;have x2:=gU.o.net.cell 2 rfl;have x3:=gU.o.net.cell 3 rfl;have d1:=gU.o.kK.cell 1 rfl;rw[uU]at d1;have GZ:w8.ownsRow 0 4 1 (.slice ya i zo) i (au.hit.flatMap lD.f):=by have:=gU.o.hit;unfold Row at this;rw[uU]at this;rw[show (M2.Auto.mk (au.nx++[rr]) au.hit).hit=au.hit from rfl,hhit]at this;exact this
         have hAh:some A≠vh.ownBlock:=fun e=>gU.o.kK.apart gU.o.hit (by decide) e.symm
         rw[uU]at hAh;have HDR:Hd (Mod No w8 w8.drew):=(Mod.refl _ _).drew;have hih:=HIS.o w8.drew st (gU.o.md.drew);generalize decide (st=H)=hb at hih HWM;clear uU
         go_region_law (first | (go_simp;go_at_call 123;refine hih.mono ?_;rintro e w9 ⟨rfl,m9⟩;have AZ:=(gU.o.no HDR.o).no m9;have k1:=AZ.kK.cell 1 rfl;rw[NM.o]at k1;have F1:=AZ.kK.dQ 1;have K1:=AZ.kK.aS 1 rfl;rw[NM.o]at K1;have qL:w9.ownsRow 0 4 1 (.slice ya i zo) i (au.hit.flatMap lD.f):=(by have:=AZ.hit;unfold Row at this;rw[NM.o]at this;rw[show (M2.Auto.mk (au.nx++[rr]) au.hit).hit=au.hit from rfl,hhit]at this;exact this);have hA9:=AZ.kK.lt) | (refine step_append_lies _ (by rfl) _ _ _ (by rfl) 0 4 j0 _ 1 1 underlying118 af hz0 hz1 hz2 rfl (by omega) (.slice ya i zo) i (au.hit.flatMap lD.f) (by rfl) (qL.alloc _) (J w9.heap.size 0) 1 1 [.bool hb] (by rfl) (by rfl) (World.news_of_block (cs:=#[.bool hb]) (t:=4) (fr:=(0,0)) (heap_alloc_new w9 _)) (by intro u hu;simp at hu;rw[hu];rfl) (by omega) (by unfold maxLen;omega) (by omega) (by simp) (w9.heap.size+1) (by simp) ?_;intro g2 cap3 w10 vZ jW Cc G5;have s0:=(jW.cell_far (J A 1) (by simp;omega) hAh).trans (K1 _);have s1:=(jW.frozen_far (J A 1) (by simp;omega) hAh).trans (F1 _)))
         all_goals
          have PU:aN (w9.alloc (.cells #[.bool hb] 4)) vh (Jn g2 (i+1) cap3):=by
           intro g1 hg1;cases hg1;rcases Cc with h | h
           ·exact Or.inl (by rw[NM.o];exact h)
           ·exact Or.inr (by simp;show w9.heap.size+1<=g2;omega)
          have PW:Row lD w10 (Jn g2 (i+1) cap3) (au.hit++[hb]):=by
           refine Row.snoc ?_;rw[hhit];exact vZ
          have aAe:Hd (WI w (.slice va n0 kP) x w.heap.size (w.heap.size+1) M A vn LM (Ms 4) v8 (Jn g2 (i+1) cap3) ⟨au.nx++[rr],au.hit++[hb]⟩ (w10.setCell (J A 1) (Jn g2 (i+1) cap3))):=(AZ.no ((Mod.refl _ _).alloc (.cells #[.bool hb] 4))).PL (by rw[NM.o];exact jW) PW PU;clear PU PW AZ m9 k1 K1 F1 qL vZ jW Cc G5 s0 s1 GZ hih x0 x1 x2 x3 d1 af hz0 hz1 hz2;go_wp2;go_roundg g
          case measure=>omega
          case rel=>exact⟨i+1,LM,Ms 4,v8,_,⟨au.nx++[rr],au.hit++[hb]⟩,by go_num,aAe.o,(aDJ.o 4 (by omega)).1,by have:=(aDJ.o 4 (by omega)).2;omega,by omega,by rw[HMS.o.2.1];exact HWM.o,by simp;omega,by simp;omega⟩
     ·rw[HW0.o g i m au (getElem?_eq_none (by omega))]at hwm;obtain rfl:=dY hwm;have hi:¬(i:Int)<mn:=by omega
      obtain⟨xa,uT,uV,-,-,-⟩:=hI.nx.any;obtain⟨ha',hcap',uU,-,-,-⟩:=hI.hit.any;generalize hln:au.nx.length=ln at uV;generalize hlh:au.hit.length=lh at uU;have d0:=hI.kK.cell 0 rfl;have d1:=hI.kK.cell 1 rfl;have r0:=hI.res.cell 0 rfl;have r1:=hI.res.cell 1 rfl;have f0:=hI.res.free 0;have f1:=hI.res.free 1;have nar:=hI.nAR;rw[uV]at d0;rw[uU]at d1;have NK:=qH uV;have NM:=qH uU;have Ce:Hd (au.nx.length=au.hit.length∧au.nx.length<=300000):=⟨by omega,by omega⟩;clear hI hwm hmo uV uU hln hlh hnx hhit hmn hvm;go_wp2;refine bodyPost_ret (v:=.agg #[.slice xa ln uT,.slice ha' lh hcap']) (by simp[results,results84,go_sem,r0,r1]) rfl ⟨?_,vx,vh,by rw[NK.o,NM.o],?_,?_,HI.o.ox,HI.o.oh,Ce.o.1,Ce.o.2⟩
      ·exact(HI.o.md.setCell (a:=⟨w.heap.size+1,0,none⟩) (fun h=>absurd h (by simp)) _).setCell (a:=⟨w.heap.size+1,1,none⟩) (fun h=>absurd h (by simp)) _
      ·have h1:=HI.o.res.apart HI.o.nx (by decide);exact(HI.o.nx.other (a:=⟨w.heap.size+1,0,none⟩) h1 _).other (a:=⟨w.heap.size+1,1,none⟩) h1 _
      ·have h1:=HI.o.res.apart HI.o.hit (by decide);exact(HI.o.hit.other (a:=⟨w.heap.size+1,0,none⟩) h1 _).other (a:=⟨w.heap.size+1,1,none⟩) h1 _
end Go.Proofs.YtoebidlghdidoaaGreatDoor
