import Derived.Test.YtoebidlghdidoaaGreatDoorAO
set_option maxHeartbeats 4000000
set_option maxRecDepth 100000
namespace Go.Proofs.YtoebidlghdidoaaGreatDoor
open M2 Tryz List Go.RowKit
attribute [local go_sem ↓] Go.wp_at_zero Go.wp_at_succ
variable {n i:Nat} {fin ts:List Nat} {res c r:List Nat × Nat} {w7:World} {v2:Value}
theorem lD.cell{w:World}{g cap:Nat}{xs:List Bool}(h:Row lD w (Jn g n cap) xs){x:Bool}(hx:xs[i]?=some x):w.cell? (J g i)=some (.bool x):=by
 have:=h.cell i 0 hx (u:=.bool x) rfl;have e:i*lD.c+0=i:=by show i*1+0=i;omega
 rwa [e]at this
def yP(h0:Bool)(hs:List Bool)(i:Nat):List Nat:=(hs.take i).map (fun h=>if h=h0 then 0 else 1)++replicate (hs.length-i) 0
def bhC(h0:Bool)(hs:List Bool)(i:Nat):Nat:=if (hs.take i).any (fun h=>!(decide (h=h0))) then 2 else 1
theorem G6(h0:Bool):∀hs:List Bool,iF h0 hs=(hs.map (fun h=>if h=h0 then 0 else 1),if hs.any (fun h=>!(decide (h=h0))) then 2 else 1)
 | []=>rfl
 | h::hs=>by
  rw[iF,G6 h0 hs];by_cases e:h=h0
  ·simp[e]
  ·simp[e]
theorem PX(a:M2.Auto):iJ a=(yP (a.hit.getD 0 false) a.hit a.hit.length,bhC (a.hit.getD 0 false) a.hit a.hit.length):=by
 unfold iJ yP bhC;rw[G6];simp
theorem PY(h0:Bool)(hs:List Bool)(i:Nat)(hi:i<=hs.length):(yP h0 hs i).length=hs.length:=by unfold yP;simp;omega
theorem G7(h0:Bool)(hs:List Bool)(i:Nat)(hi:i<hs.length):(yP h0 hs i)[i]?=some 0:=by
 unfold yP;rw[mW (by simp;omega),getElem?_replicate];simp;omega
theorem PZ(h0:Bool)(hs:List Bool)(i:Nat)(h:Bool)(hh:hs[i]?=some h):(yP h0 hs i).set i (if h=h0 then 0 else 1)=yP h0 hs (i+1):=by
 have hi:=(bU hh).1;unfold yP;rw[set_append_right _ _ (by simp;omega),take_add_one,hh];have e:i-((hs.take i).map (fun h=>if h=h0 then 0 else 1)).length=0:=by simp;omega
 rw[e,show hs.length-i=(hs.length-(i+1))+1 by omega,replicate_succ,set_cons_zero];simp
theorem aAf(h0:Bool)(hs:List Bool)(i:Nat)(hh:hs[i]?=some h0):bhC h0 hs (i+1)=bhC h0 hs i:=by
 unfold bhC;rw[take_add_one,hh];simp
theorem XR(h0:Bool)(hs:List Bool)(i:Nat)(h:Bool)(hh:hs[i]?=some h)(hne:¬h=h0):bhC h0 hs (i+1)=2:=by
 unfold bhC;rw[take_add_one,hh];simp[hne]
def aAg(of:List Nat)(c:Nat)(w:World)(e:Ending)(w':World):Prop:=Mod No w w'∧∃v,e=.returned (.agg #[v,I c])∧Row dh w' v of∧(∀g,v.ownBlock=some g->w.heap.size<=g)
theorem XT(w:World)(vx vh:Value)(a:M2.Auto)(hx:Row nC w vx a.nx)(hh:Row lD w vh a.hit)(hl:a.hit.length<=300000)(h0:0<a.hit.length):J1 85 #[.agg #[vx,vh]] w fun e w'=>aAg (iJ a).1 (iJ a).2 w e w':=by
 rw[PX];obtain⟨xa,uT,rfl,-,-,-⟩:=hx.any;obtain⟨g,cap,rfl,hg,hcap⟩:=hh.form h0;obtain⟨hs,hhs⟩:=eX a.hit;rw[<-hhs]at hh hl h0 hcap ⊢;generalize a.nx.length=ln;obtain⟨b0,hb0⟩:∃b0,hs[0]?=some b0:=⟨hs[0],bG h0⟩;have e0:hs.getD 0 false=b0:=by rw[fM,hb0];rfl
 rw[e0];obtain⟨n,hn⟩:=eX hs.length;rw[<-hn]at hh hl h0 hcap ⊢;have hmk:=iO n (by omega);have HH:=qH hh;have HN:=qH hn;have HB0:=qH hb0;clear hx hhs hh hn hb0 e0;go_enter func85,ntmps85;go_wp2_with fail;have HI0:Hd (∀A B C D,A=Obj.cells #[.slice xa ln uT,Jn g n cap] 138->B=Obj.cells #[.slice none 0 0,I 0] 194->C=Obj.cells (Array.replicate n (I 0)) 3->D=Obj.cells #[.slice (some ⟨w.heap.size+1+1,0,none⟩) n n,I 1] 194 ->aG ((((w.alloc A).alloc B).alloc C).alloc D) w.heap.size [.slice xa ln uT,Jn g n cap] 138∧aG ((((w.alloc A).alloc B).alloc C).alloc D) (w.heap.size+1) [.slice none 0 0,I 0] 194∧Row dh ((((w.alloc A).alloc B).alloc C).alloc D) (.slice (some ⟨w.heap.size+1+1,0,none⟩) n n) (yP b0 hs 0)∧aG ((((w.alloc A).alloc B).alloc C).alloc D) (w.heap.size+1+1+1) [.slice (some ⟨w.heap.size+1+1,0,none⟩) n n,I 1] 194):=by
  intro A B C D hA hB hC hD;subst hA hB hC hD;refine⟨aG.alloc (vV w _ _ _) _,aG.alloc (tu w _ _ _) _,?_,?_⟩
  ·have e:yP b0 hs 0=replicate n 0:=by unfold yP;rw[HN.o];simp
   rw[e];have hb:aG ((((w.alloc (.cells #[.slice xa ln uT,Jn g n cap] 138)).alloc (.cells #[.slice none 0 0,I 0] 194)).alloc (.cells (Array.replicate n (I 0)) 3)).alloc (.cells #[.slice (some ⟨w.heap.size+1+1,0,none⟩) n n,I 1] 194)) (w.heap.size+1+1) ((replicate n (0:Nat)).flatMap dh.f) 3:=by
    rw[jL];refine aG.alloc ?_ _;have:=uD w (Obj.cells #[.slice xa ln uT,Jn g n cap] 138) (Obj.cells #[.slice none 0 0,I 0] 194) (Obj.cells (Array.replicate n (I 0)) 3);unfold aG;rw[this];simp
   have:=Row.of_block hb (by simp;unfold maxLen;omega);simpa using this
  ·unfold aG;simpa using heap_alloc_new (((w.alloc (.cells #[.slice xa ln uT,Jn g n cap] 138)).alloc (.cells #[.slice none 0 0,I 0] 194)).alloc (.cells (Array.replicate n (I 0)) 3)) (Obj.cells #[.slice (some ⟨w.heap.size+1+1,0,none⟩) n n,I 1] 194)
 go_loopg [14] n (fun gh v14 wr=>∃i:Nat,i<=n∧gh=n-i∧v14=I i∧aG wr w.heap.size [.slice xa ln uT,Jn g n cap] 138∧aG wr (w.heap.size+1) [.slice none 0 0,I 0] 194∧Row dh wr (.slice (some ⟨w.heap.size+1+1,0,none⟩) n n) (yP b0 hs i)∧aG wr (w.heap.size+1+1+1) [.slice (some ⟨w.heap.size+1+1,0,none⟩) n n,I (bhC b0 hs i:Int)] 194∧Mod No w wr)
 case atStart=>
  have h:=HI0.o _ _ _ _ rfl rfl rfl rfl;exact⟨0,by omega,by omega,rfl,h.1,h.2.1,h.2.2.1,h.2.2.2,((((Mod.refl _ _).alloc _).alloc _).alloc _).alloc _⟩
 case round=>
  obtain⟨i,hi,hgk,rfl,hX,hR,hO,hC,hm⟩:=hrel;have HX:=qH hX;have HR:=qH hR;have HO:=qH hO;have HC:=qH hC;have HM:=qH hm;by_cases hlt:i<n
  ·obtain⟨b,hb⟩:∃b,hs[i]?=some b:=⟨hs[i]'(by have:=HN.o;omega),bG _⟩;have hH:=HH.o.no hm;have ci:=lD.cell hH hb;have c0:=lD.cell hH HB0.o;have x1:=hX.cell 1 rfl;have o0:=hC.cell 0 rfl;have o1:=hC.cell 1 rfl;have fo1:=hC.free 1;have oi:=dh.cell hO (G7 b0 hs i (by have:=HN.o;omega));have foi:=hO.free i;have hilt:(i:Int)<n:=by omega
   have hn0:(0:Int)<(n:Int):=by omega
   have HB:=qH hb;by_cases e:b=b0
   ·subst e;have P5:Hd (yP b hs i=yP b hs (i+1)):=qH <| by
     rw[<-PZ b hs i b HB.o,aP rfl];refine(ext_getElem? fun j=>?_);rw[getElem?_set];split
     ·rename_i e2;subst e2;rw[G7 b hs i (by have:=HN.o;omega),aP (by rw[PY b hs i (by have:=HN.o;omega)];have:=HN.o;omega)]
     ·rfl
    go_wp2;go_roundg (n-(i+1))
    case measure=>omega
    case rel=>exact⟨i+1,by omega,rfl,by go_num,HX.o,HR.o,by rw[<-P5.o];exact HO.o,by rw[aAf b hs i HB.o];exact HC.o,HM.o⟩
   ·have hne:(b==b0)=false:=by simpa using e
    have hne2:(b != b0)=true:=by simpa using e
    have HE:=qH e;go_wp2;go_roundg (n-(i+1))
    case measure=>omega
    case rel=>
     refine⟨i+1,by omega,rfl,by go_num,?_,?_,?_,?_,?_⟩
     ·exact(HX.o.other (a:=⟨w.heap.size+1+1,i,none⟩) (by simp;omega) _).other (a:=⟨w.heap.size+1+1+1,1,none⟩) (by simp;omega) _
     ·exact(HR.o.other (a:=⟨w.heap.size+1+1,i,none⟩) (by simp) _).other (a:=⟨w.heap.size+1+1+1,1,none⟩) (show w.heap.size+1≠w.heap.size+1+1+1 by omega) _
     ·rw[<-PZ b0 hs i b HB.o,aU HE.o];exact(dh.put HO.o 1 (G7 b0 hs i (by have:=HN.o;omega))).other (a:=⟨w.heap.size+1+1+1,1,none⟩) (by simp[Value.ownBlock]) _
     ·rw[XR b0 hs i b HB.o HE.o];exact(HC.o.other (a:=⟨w.heap.size+1+1,i,none⟩) (by simp) _).set 1 _
     ·exact(HM.o.setCell (a:=⟨w.heap.size+1+1,i,none⟩) (fun h=>absurd h (by simp;omega)) _).setCell (a:=⟨w.heap.size+1+1+1,1,none⟩) (fun h=>absurd h (by simp;omega)) _
  ·obtain rfl:i=n:=by omega
   have o0:=hC.cell 0 rfl;have o1:=hC.cell 1 rfl;have r0:=hR.cell 0 rfl;have r1:=hR.cell 1 rfl;have f0:=hR.free 0;have f1:=hR.free 1;go_wp2;refine bodyPost_ret (v:=.agg #[.slice (some ⟨w.heap.size+1+1,0,none⟩) i i,I (bhC b0 hs i:Int)]) (by simp[results,results85,go_sem,r0,r1]) rfl ⟨?_,_,rfl,?_,fun g2 hg2=>?_⟩
   ·exact(HM.o.setCell (a:=⟨w.heap.size+1,0,none⟩) (fun h=>absurd h (by simp)) _).setCell (a:=⟨w.heap.size+1,1,none⟩) (fun h=>absurd h (by simp)) _
   ·exact(HO.o.other (a:=⟨w.heap.size+1,0,none⟩) (by simp[Value.ownBlock]) _).other (a:=⟨w.heap.size+1,1,none⟩) (by simp[Value.ownBlock]) _
   ·cases hg2;show w.heap.size<=w.heap.size+1+1;omega
def r4c(r:aI.R4):List Value:=[I r.a,I r.b,I r.c,I r.d]
def TF(r:aI.R4)(l:Nat):Nat:=(r.get l).getD 0
theorem Vs(r:aI.R4)(l:Nat)(hl:l<4):(r4c r)[l]?=some (I (TF r l:Int)):=by
 match l,hl with
 | 0,_=>rfl
 | 1,_=>rfl
 | 2,_=>rfl
 | 3,_=>rfl
theorem aGm(w:World)(A B C D E:Obj):(((((w.alloc A).alloc B).alloc C).alloc D).alloc E).heap[w.heap.size]?=some A∧(((((w.alloc A).alloc B).alloc C).alloc D).alloc E).heap[w.heap.size+1]?=some B∧(((((w.alloc A).alloc B).alloc C).alloc D).alloc E).heap[w.heap.size+1+1]?=some C∧(((((w.alloc A).alloc B).alloc C).alloc D).alloc E).heap[w.heap.size+1+1+1]?=some D∧(((((w.alloc A).alloc B).alloc C).alloc D).alloc E).heap[w.heap.size+1+1+1+1]?=some E:=by
 refine⟨?_,?_,?_,?_,?_⟩
 ·rw[Below.heap_alloc _ _ _ (by simp;omega),Below.heap_alloc _ _ _ (by simp;omega)];exact vV w A B C
 ·rw[Below.heap_alloc _ _ _ (by simp;try omega),Below.heap_alloc _ _ _ (by simp;try omega)];exact tu w A B C
 ·rw[Below.heap_alloc _ _ _ (by simp),Below.heap_alloc _ _ _ (by simp)];exact uD w A B C
 ·rw[Below.heap_alloc _ _ _ (by simp)];simpa using heap_alloc_new (((w.alloc A).alloc B).alloc C) D
 ·simpa using heap_alloc_new ((((w.alloc A).alloc B).alloc C).alloc D) E
structure ND(w:World)(S:Nat)(vo:Value)(m M n c:Nat)(met fin:List Nat)(wr:World):Prop where
 box:aG wr S [vo,I m] 194
 res:aG wr (S+1) [.slice none 0 0,I 0] 194
 met:Row dh wr (.slice (some ⟨S+1+1,0,none⟩) M M) met
 fin:Row dh wr (.slice (some ⟨S+1+1+1,0,none⟩) n n) (fin++replicate (n-fin.length) 0)
 cur:aG wr (S+1+1+1+1) [.slice (some ⟨S+1+1+1,0,none⟩) n n,I c] 194
 md:Mod No w wr
 le:w.heap.size<=S
section
variable {w:World} {S:Nat} {vo:Value} {m M n c:Nat} {met fin:List Nat} {wr wr':World}
theorem ND.no(h:ND w S vo m M n c met fin wr)(hm:Mod No wr wr'):ND w S vo m M n c met fin wr':=⟨h.box.mod hm (fun x=>x),h.res.mod hm (fun x=>x),h.met.no hm,h.fin.no hm,h.cur.mod hm (fun x=>x),h.md.no hm,h.le⟩
theorem ND.count(h:ND w S vo m M n c met fin wr)(d:Nat):ND w S vo m M n d met fin (wr.setCell ⟨S+1+1+1+1,1,none⟩ (I d)):=⟨h.box.other (a:=⟨S+1+1+1+1,1,none⟩) (show S≠S+1+1+1+1 by omega) _,h.res.other (a:=⟨S+1+1+1+1,1,none⟩) (show S+1≠S+1+1+1+1 by omega) _,h.met.other (a:=⟨S+1+1+1+1,1,none⟩) (fun e=>by have:S+1+1=S+1+1+1+1:=dY e;omega) _,h.fin.other (a:=⟨S+1+1+1+1,1,none⟩) (fun e=>by have:S+1+1+1=S+1+1+1+1:=dY e;omega) _,h.cur.set 1 _,h.md.setCell (a:=⟨S+1+1+1+1,1,none⟩) (fun e=>by have:=h.le;have:S+1+1+1+1<w.heap.size:=e;omega) _,h.le⟩
theorem ND.meet(h:ND w S vo m M n c met fin wr){p u:Nat}(hp:met[p]?=some u)(d:Nat):ND w S vo m M n c (met.set p d) fin (wr.setCell ⟨S+1+1,p,none⟩ (I d)):=⟨h.box.other (a:=⟨S+1+1,p,none⟩) (show S≠S+1+1 by omega) _,h.res.other (a:=⟨S+1+1,p,none⟩) (show S+1≠S+1+1 by omega) _,dh.put h.met d hp,h.fin.other (a:=⟨S+1+1,p,none⟩) (fun e=>by have:S+1+1+1=S+1+1:=dY e;omega) _,h.cur.other (a:=⟨S+1+1,p,none⟩) (show S+1+1+1+1≠S+1+1 by omega) _,h.md.setCell (a:=⟨S+1+1,p,none⟩) (fun e=>by have:=h.le;have:S+1+1<w.heap.size:=e;omega) _,h.le⟩
theorem L8(hi:fin.length=i)(hn:i<n):(fin++replicate (n-fin.length) 0)[i]?=some 0:=by
 rw[mW (by omega),getElem?_replicate];simp;omega
theorem aB9(hi:fin.length=i)(hn:i<n)(d:Nat):(fin++replicate (n-fin.length) 0).set i d=(fin++[d])++replicate (n-(fin++[d]).length) 0:=by
 rw[set_append_right _ _ (by omega),show i-fin.length=0 by omega,show n-fin.length=(n-(fin++[d]).length)+1 by simp;omega,replicate_succ,set_cons_zero];simp
theorem ND.put(h:ND w S vo m M n c met fin wr)(hi:fin.length=i)(hn:i<n)(d:Nat):ND w S vo m M n c met (fin++[d]) (wr.setCell ⟨S+1+1+1,i,none⟩ (I d)):=⟨h.box.other (a:=⟨S+1+1+1,i,none⟩) (show S≠S+1+1+1 by omega) _,h.res.other (a:=⟨S+1+1+1,i,none⟩) (show S+1≠S+1+1+1 by omega) _,h.met.other (a:=⟨S+1+1+1,i,none⟩) (fun e=>by have:S+1+1=S+1+1+1:=dY e;omega) _,by rw[<-aB9 hi hn d];exact dh.put h.fin d (L8 hi hn),h.cur.other (a:=⟨S+1+1+1,i,none⟩) (show S+1+1+1+1≠S+1+1+1 by omega) _,h.md.setCell (a:=⟨S+1+1+1,i,none⟩) (fun e=>by have:=h.le;have:S+1+1+1<w.heap.size:=e;omega) _,h.le⟩
end
theorem XU(w:World)(vo vn:Value)(of:List Nat)(m:Nat)(nx:List aI.R4)(l:Nat)(hof:Row dh w vo of)(hnx:Row nC w vn nx)(aCS:m<=200)(hn0:0<nx.length)(hnl:nx.length<=300000)(hlen:of.length=nx.length)(hl:l<4)(hM:sK (of,m) (nx.map fun r=>(r.get l).getD 0)=some res):J1 124 #[.agg #[vo,I m],vn,I l] w fun e w'=>aAg res.1 res.2 w e w':=by
 obtain⟨g,cap,rfl,hg,hcap⟩:=hnx.form hn0;obtain⟨g2,cap2,rfl,hg2,hcap2⟩:=hof.form (by omega);obtain⟨n,hn⟩:=eX nx.length;rw[hlen]at hof hcap2;rw[<-hn]at hof hnx hn0 hnl hcap hcap2 hlen;rw[hlen,<-hn];obtain⟨M,hMd⟩:=eX (m*m);have hM4:M<=40000:=by rw[hMd];exact Nat.le_trans (Nat.mul_le_mul aCS aCS) (by omega)
 have hmm:(m:Int)*(m:Int)=M:=by rw[hMd];exact(Int.natCast_mul m m).symm
 have hmk:=iO M (by omega);have aGn:=iO n (by omega);have yZ:(l:Int)<4:=by omega
 have aB3:(0:Int)<=(l:Int):=by omega
 unfold sK at hM
 dsimp only at hM
 rw[<-hMd]at hM;have HM:=qH hM;have HOF:=qH hof;have rM:=qH hnx;have HN:=qH hn;have HLEN:=qH hlen;clear hM hof hnx hn hlen hMd;go_enter func124,ntmps124;go_wp2_with fail;have HI0:Hd (∀A B C D E,A=Obj.cells #[Jn g2 n cap2,I m] 194->B=Obj.cells #[.slice none 0 0,I 0] 194->C=Obj.cells (Array.replicate M (I 0)) 3->D=Obj.cells (Array.replicate n (I 0)) 3->E=Obj.cells #[.slice (some ⟨w.heap.size+1+1+1,0,none⟩) n n,I 0] 194 ->ND w w.heap.size (Jn g2 n cap2) m M n 0 (replicate M 0) [] (((((w.alloc A).alloc B).alloc C).alloc D).alloc E)):=by
  intro A B C D E hA hB hC hD hE;have h5:=aGm w A B C D E;have hmd:Mod No w (((((w.alloc A).alloc B).alloc C).alloc D).alloc E):=(((((Mod.refl _ _).alloc _).alloc _).alloc _).alloc _).alloc _;generalize (((((w.alloc A).alloc B).alloc C).alloc D).alloc E)=W at h5 hmd ⊢;subst hA hB hC hD hE;refine⟨h5.1,h5.2.1,?_,?_,h5.2.2.2.2,hmd,dH _⟩
  ·have hb:aG W (w.heap.size+1+1) ((replicate M (0:Nat)).flatMap dh.f) 3:=by
    rw[jL];unfold aG;rw[h5.2.2.1];simp
   have:=Row.of_block hb (by simp;unfold maxLen;omega);simpa using this
  ·have hb:aG W (w.heap.size+1+1+1) ((replicate n (0:Nat)).flatMap dh.f) 3:=by
    rw[jL];unfold aG;rw[h5.2.2.2.1];simp
   have:=Row.of_block hb (by simp;unfold maxLen;omega);simpa using this
 go_loopg [24] n (fun gh v24 wr=>∃(i c:Nat) (met fin:List Nat),i<=n∧gh=n-i∧v24=I i∧fin.length=i∧c<=i∧ND w w.heap.size (Jn g2 n cap2) m M n c met fin wr∧(∀u∈met,u<=c)∧gI of m (of.drop i) ((nx.map fun r=>(r.get l).getD 0).drop i) met fin c=some res)
 case atStart=>exact⟨0,0,_,[],by omega,by omega,rfl,rfl,by omega,HI0.o _ _ _ _ _ rfl rfl rfl rfl rfl,fun u hu=>by rw[eq_of_mem_replicate hu];omega,HM.o⟩
 case round=>
  obtain⟨i,c,met,fin,hi,hgk,rfl,hfl,hci,hI,hmv,hsp⟩:=hrel;by_cases hlt:i<n
  ·obtain⟨r,hr⟩:∃r,nx[i]?=some r:=⟨nx[i]'(by have:=HN.o;omega),bG _⟩;obtain⟨x,hx⟩:∃x,of[i]?=some x:=⟨of[i]'(by have:=HLEN.o;omega),bG _⟩;have hd1:of.drop i=x::of.drop (i+1):=by
    obtain⟨h1,rfl⟩:=bU hx;exact kJ h1
   have hd2:(nx.map fun r=>(r.get l).getD 0).drop i=TF r l::(nx.map fun r=>(r.get l).getD 0).drop (i+1):=by
    obtain⟨h1,rfl⟩:=bU hr;rw[kJ (by rw[length_map];exact h1)];simp[TF]
   rw[hd1,hd2,gI]at hsp;generalize hTd:TF r l=T at hsp
   cases hy:of[T]? with
   | none=>rw[hy]at hsp;cases hsp
   | some y=>
    rw[hy]at hsp
    dsimp only at hsp
    cases hu:met[x*m+y]? with
    | none=>rw[hu]at hsp;cases hsp
    | some u=>
     rw[hu]at hsp;obtain⟨xm,hxm⟩:=eX (x*m);obtain⟨p,hp⟩:=eX (xm+y);rw[<-hxm,<-hp]at hu hsp;have hpM:p<M:=by
      have h1:=(bU hu).1;have h2:=hI.met.any;obtain⟨_,_,h3,_,_,_⟩:=h2;cases h3;omega
     have hub:=hmv u (iI hu);have hTn:T<n:=by have:=(bU hy).1;rw[HLEN.o]at this;exact this
     have aHC:(x:Int)*(m:Int)=xm:=by rw[hxm];exact(Int.natCast_mul x m).symm
     have hpi:(xm:Int)+(y:Int)=p:=by omega
     have aHD:xm<=40000:=by omega
     have hrow:=rM.o.no hI.md;have q0:wr.cell? (J g (i*4))=some (I r.a):=hrow.cell i 0 hr rfl;have q1:wr.cell? (J g (i*4+1))=some (I r.b):=hrow.cell i 1 hr rfl;have q2:wr.cell? (J g (i*4+2))=some (I r.c):=hrow.cell i 2 hr rfl;have q3:wr.cell? (J g (i*4+3))=some (I r.d):=hrow.cell i 3 hr rfl;obtain⟨wa,JX⟩:∃wa,wr.alloc (.cells #[I r.a,I r.b,I r.c,I r.d] 102)=wa:=⟨_,rfl⟩;have hma:Mod No wr wa:=by rw[<-JX];exact(Mod.refl _ _).alloc _
     have hIa:=hI.no hma;have hTb:aG wa wr.heap.size (r4c r) 102:=by rw[<-JX];exact heap_alloc_new wr _
     have tl:=hTb.cell l (Vs r l hl);rw[hTd]at tl;have aDL:=HOF.o.no hIa.md;have ox:=dh.cell aDL hx;have oy:=dh.cell aDL hy;have b0:=hIa.box.cell 0 rfl;have b1:=hIa.box.cell 1 rfl;have k0:=hIa.cur.cell 0 rfl;have k1:=hIa.cur.cell 1 rfl;have fk1:=hIa.cur.free 1;have mp:=dh.cell hIa.met hu;have fmp:=hIa.met.free p;have hilt:(i:Int)<n:=by omega
     have hTi:(T:Int)<n:=by omega
     have aHE:(p:Int)<M:=by omega
     have hp0:(0:Int)<=(p:Int):=by omega
     have Vr:=qH hIa;have HU:=qH hu;have HMV:=qH hmv;clear hr hx hd1 hd2 hTd hy hu hxm hp hrow hma hIa hTb aDL hI hmv;go_wp2_with fail;go_quiet (fail)
     match u,hsp with
     | 0,hsp=>
      have HSP:Hd (gI of m (of.drop (i+1)) ((nx.map fun r=>(r.get l).getD 0).drop (i+1)) (met.set p (c+1)) (fin++[c]) (c+1)=some res):=hsp;have hI2:=((Vr.o.no ((Mod.refl _ _).drewN nq)).count (c+1)).meet HU.o (c+1);obtain⟨wb,hwb⟩:∃wb,((wa.drewN nq).setCell ⟨w.heap.size+1+1+1+1,1,none⟩ (I ((c:Int)+1))).setCell ⟨w.heap.size+1+1,p,none⟩ (I ((c:Int)+1))=wb:=⟨_,rfl⟩;rw[show (((c+1:Nat):Int))=(c:Int)+1 by omega,hwb]at hI2;go_wp2;have HI2:=qH hI2;have mp:=dh.cell hI2.met (i:=p) (x:=c+1) (by rw[getElem?_set,aP rfl,aP (bU HU.o).1]);have k0:=hI2.cur.cell 0 rfl;have fi:=dh.cell hI2.fin (L8 hfl hlt);have ffi:=hI2.fin.free i;obtain⟨d,hd⟩:=eX (c+1);rw[<-hd]at mp;have HD:=qH hd;have hd1:1<=d:=by omega
      have hd2:d<=300001:=by omega
      clear hd
      go_region
      go_wp2;go_roundg (n-(i+1))
      case measure=>omega
      case rel=>
       refine⟨i+1,c+1,met.set p (c+1),fin++[c],by omega,rfl,by go_num,by simp;omega,by omega,?_,?_,HSP.o⟩
       ·rw[show (d:Int)-1=(c:Int) by have:=HD.o;omega];exact(HI2.o.put hfl hlt c).no ((Mod.refl _ _).drew)
       ·intro u hu;rcases mem_or_eq_of_mem_set hu with h | h
        ·have:=HMV.o u h;omega
        ·omega
     | u+1,hsp=>
      have HSP:Hd (gI of m (of.drop (i+1)) ((nx.map fun r=>(r.get l).getD 0).drop (i+1)) met (fin++[u]) c=some res):=hsp;have hne:(((u:Int)+1)==0)=false:=by rw[beq_eq_false_iff_ne];omega
      have hI2:=Vr.o.no ((Mod.refl _ _).drewN nq);go_wp2;generalize wa.drewN nq=wb at hI2 ⊢;have HI2:=qH hI2;have mp:=dh.cell hI2.met HU.o;have k0:=hI2.cur.cell 0 rfl;have fi:=dh.cell hI2.fin (L8 hfl hlt);have ffi:=hI2.fin.free i;obtain⟨d,hd⟩:=eX (u+1);rw[<-hd]at mp;have HD:=qH hd;have hd1:1<=d:=by omega
      have hd2:d<=300001:=by omega
      clear hd
      go_region
      go_wp2;go_roundg (n-(i+1))
      case measure=>omega
      case rel=>
       refine⟨i+1,c,met,fin++[u],by omega,rfl,by go_num,by simp;omega,by omega,?_,HMV.o,HSP.o⟩;rw[show (d:Int)-1=(u:Int) by have:=HD.o;omega];exact(HI2.o.put hfl hlt u).no ((Mod.refl _ _).drew)
  ·obtain rfl:i=n:=by omega
   rw[drop_of_length_le (by rw[HLEN.o];omega),drop_of_length_le (by rw[length_map,<-HN.o];omega),gI]at hsp;obtain rfl:=dY hsp;have HI:=qH hI;have HFL:Hd (fin++replicate (i-fin.length) 0=fin):=qH <| by rw[hfl];simp
   have o0:=hI.cur.cell 0 rfl;have o1:=hI.cur.cell 1 rfl;have r0:=hI.res.cell 0 rfl;have r1:=hI.res.cell 1 rfl;have f0:=hI.res.free 0;have f1:=hI.res.free 1;go_wp2;refine bodyPost_ret (v:=.agg #[.slice (some ⟨w.heap.size+1+1+1,0,none⟩) i i,I c]) (by simp[results,results124,go_sem,r0,r1]) rfl ⟨?_,_,rfl,?_,fun g2 hg2=>?_⟩
   ·exact(HI.o.md.setCell (a:=⟨w.heap.size+1,0,none⟩) (fun h=>absurd h (by simp)) _).setCell (a:=⟨w.heap.size+1,1,none⟩) (fun h=>absurd h (by simp)) _
   ·have hf:=HI.o.fin;rw[HFL.o]at hf;exact(hf.other (a:=⟨w.heap.size+1,0,none⟩) (by simp[Value.ownBlock];omega) _).other (a:=⟨w.heap.size+1,1,none⟩) (by simp[Value.ownBlock];omega) _
   ·cases hg2;show w.heap.size<=w.heap.size+1+1+1;omega
theorem ve(of:List Nat)(m:Nat):∀(xs ts met fin:List Nat) (c:Nat) (r:List Nat × Nat),gI of m xs ts met fin c=some r->r.1.length=fin.length+xs.length
 | [],[],met,fin,c,r,h=>by rw[gI]at h;cases h;simp
 | [],t::ts,met,fin,c,r,h=>by simp[gI]at h
 | x::xs,[],met,fin,c,r,h=>by simp[gI]at h
 | x::xs,t::ts,met,fin,c,r,h=>by
  rw[gI]at h
  cases hy:of[t]? with
  | none=>rw[hy]at h;cases h
  | some y=>
   rw[hy]at h
   dsimp only at h
   cases hu:met[x*m+y]? with
   | none=>rw[hu]at h;cases h
   | some u=>
    rw[hu]at h
    match u,h with
    | 0,h=>have:=ve of m xs ts _ _ _ r h;simp at this ⊢;omega
    | u+1,h=>have:=ve of m xs ts _ _ _ r h;simp at this ⊢;omega
theorem Jb(h:sK c ts=some r):r.1.length=c.1.length:=by
 have:=ve _ _ _ _ _ _ _ _ h;simpa using this
theorem vg(of:List Nat)(m:Nat):∀(xs ts met fin:List Nat) (c:Nat) (r:List Nat × Nat),gI of m xs ts met fin c=some r->r.2<=c+xs.length
 | [],[],met,fin,c,r,h=>by rw[gI]at h;cases h;simp
 | [],t::ts,met,fin,c,r,h=>by simp[gI]at h
 | x::xs,[],met,fin,c,r,h=>by simp[gI]at h
 | x::xs,t::ts,met,fin,c,r,h=>by
  rw[gI]at h
  cases hy:of[t]? with
  | none=>rw[hy]at h;cases h
  | some y=>
   rw[hy]at h
   dsimp only at h
   cases hu:met[x*m+y]? with
   | none=>rw[hu]at h;cases h
   | some u=>
    rw[hu]at h
    match u,h with
    | 0,h=>have:=vg of m xs ts _ _ _ r h;simp at this ⊢;omega
    | u+1,h=>have:=vg of m xs ts _ _ _ r h;simp at this ⊢;omega
theorem XV(h:sK c ts=some r):r.2<=c.1.length:=by
 have:=vg _ _ _ _ _ _ _ _ h;omega
def aAh(of:List Nat)(c:Nat)(w:World)(e:Ending)(w':World):Prop:=Mod No w w'∧∃v,e=.returned (.agg #[v,I c])∧Row dh w' v of
structure ReI(w:World)(S:Nat)(v:Value)(of:List Nat)(c:Nat)(wr:World):Prop where
 box:aG wr S [v,I c] 194
 res:aG wr (S+1) [.slice none 0 0,I 0] 194
 row:Row dh wr v of
 md:Mod No w wr
 le:w.heap.size<=S
theorem G8(w:World)(vo vn:Value)(of:List Nat)(m most:Nat)(nx:List aI.R4)(hof:Row dh w vo of)(hnx:Row nC w vn nx)(Dx:most<=200)(hm:m<=300000)(hn0:0<nx.length)(hnl:nx.length<=300000)(hlen:of.length=nx.length){F:Nat}(hM:eU nx most F (of,m)=some res):J1 86 #[.agg #[vo,I m],vn,I most] w fun e w'=>aAh res.1 res.2 w e w':=by
 obtain⟨oa,aGo,hvo,-,-,-⟩:=hof.any;obtain⟨xa,uT,hvn,-,-,-⟩:=hnx.any;have HSP:=qH fun wx v (of:List Nat) (c:Nat) (l:Nat) r (hmd:Mod No w wx) (hrow:Row dh wx v of) (hl:of.length=nx.length) (hc:c<=most) (hl4:l<4) (hs:sK (of,c) (nx.map fun r=>(r.get l).getD 0)=some r)=>XU wx v vn of c nx l hrow (hnx.no hmd) (by omega) hn0 hnl hl hl4 hs
 have HM:=qH hM;have HLEN:=qH hlen;have HOF:=qH hof;generalize hol:of.length=ol at hvo;have HNL:=qH hnl;generalize hxl:nx.length=xl at hvn;subst hvn;have HI0:Hd (∀A B,A=Obj.cells #[vo,I m] 194->B=Obj.cells #[.slice none 0 0,I 0] 194->ReI w w.heap.size vo of m ((w.alloc A).alloc B)):=fun A B hA hB=>⟨by subst hA;exact gq w _ _,by subst hB;exact fE w _ _,(hof.alloc _).alloc _,((Mod.refl _ _).alloc _).alloc _,dH _⟩
 rw[hvo]at HI0 HOF ⊢;go_enter func86,ntmps86;go_wp2_with fail;go_loopg [7,8] F (fun g _ _ wr=>∃(v:Value) (of:List Nat) (c:Nat),ReI w w.heap.size v of c wr∧of.length=nx.length∧c<=300000∧eU nx most g (of,c)=some res)
 case atStart=>exact⟨_,of,m,HI0.o _ _ rfl rfl,HLEN.o,hm,HM.o⟩
 case round=>
  obtain⟨v,of,c,hI,hol,hc,qj⟩:=hrel
  match gk,qj with
  | 0,qj=>rw[eU]at qj;cases qj
  | g+1,qj=>
   rw[eU]at qj
   dsimp only at qj
   have HI:=qH hI;have b1:=hI.box.cell 1 rfl;by_cases hmc:most<c
   ·rw[aP hmc]at qj;obtain rfl:=dY qj;have aGp:¬(c:Int)<=most:=by omega
    obtain⟨va,kP,hv,-,-,-⟩:=hI.row.any;generalize of.length=vl at hv;have b0:=hI.box.cell 0 rfl;rw[hv]at b0;have r0:=hI.res.cell 0 rfl;have r1:=hI.res.cell 1 rfl;have f0:=hI.res.free 0;have f1:=hI.res.free 1;have HV:=qH hv;go_wp2;refine bodyPost_ret (v:=.agg #[.slice va vl kP,I c]) (by simp[results,results86,go_sem,r0,r1]) rfl ⟨?_,v,by rw[HV.o],?_⟩
    ·exact(HI.o.md.setCell (a:=⟨w.heap.size+1,0,none⟩) (fun h=>absurd h (by simp)) _).setCell (a:=⟨w.heap.size+1,1,none⟩) (fun h=>absurd h (by simp)) _
    ·have h1:=HI.o.res.apart HI.o.row (by decide);exact(HI.o.row.other (a:=⟨w.heap.size+1,0,none⟩) h1 _).other (a:=⟨w.heap.size+1,1,none⟩) h1 _
   ·rw[aU hmc]at qj;have aGp:(c:Int)<=most:=by omega
    cases hlt:M2.aV nx most 4 (of,c)with
    | none=>rw[hlt]at qj;cases qj
    | some c1=>
     obtain⟨of1,k1⟩:=c1;rw[hlt]at qj
     dsimp only at qj
     have Ox:=qH hlt;have XW:Hd ((if k1=c then some (of1,k1) else eU nx most g (of1,k1))=some res):=qj;go_wp2_with fail;go_loopg [8] 4 (fun f v8 wx=>∃(l:Nat) (v:Value) (KX:List Nat) (c2:Nat),v8=I l∧l+f=4∧ReI w w.heap.size v KX c2 wx∧KX.length=nx.length∧c2<=300000∧M2.aV nx most f (KX,c2)=some (of1,k1))
     case atStart=>exact⟨0,v,of,c,rfl,rfl,HI.o,hol,hc,Ox.o⟩
     case round=>
      obtain⟨l,v,KX,c2,rfl,hlf,hI,TJ,hc2,hlet⟩:=hrel
      match gk,hlf,hlet with
      | 0,hlf,hlet=>
       rw[M2.aV]at hlet;simp only[Option.some.injEq,Prod.mk.injEq]at hlet;obtain⟨rfl,rfl⟩:=hlet;obtain rfl:l=4:=by omega
       have b1:=hI.box.cell 1 rfl;have HI2:=qH hI;by_cases hk:c2=c
       ·have HRS:Hd ((KX,c2)=res):=by
         have h:=XW.o;rw[aP hk]at h;exact dY h
        have hki:((c2:Int)==(c:Int))=true:=by rw[hk];simp
        obtain⟨va,kP,hv,-,-,-⟩:=hI.row.any;generalize KX.length=vl at hv;have b0:=hI.box.cell 0 rfl;rw[hv]at b0;have r0:=hI.res.cell 0 rfl;have r1:=hI.res.cell 1 rfl;have f0:=hI.res.free 0;have f1:=hI.res.free 1;have HV:=qH hv;clear hI hv hk TJ;go_wp2;refine bodyPost_ret (v:=.agg #[.slice va vl kP,I c2]) (by simp[results,results86,go_sem,r0,r1]) rfl ?_;rw[<-HRS.o];refine⟨?_,v,by rw[HV.o],?_⟩
        ·exact(HI2.o.md.setCell (a:=⟨w.heap.size+1,0,none⟩) (fun h=>absurd h (by simp)) _).setCell (a:=⟨w.heap.size+1,1,none⟩) (fun h=>absurd h (by simp)) _
        ·have h1:=HI2.o.res.apart HI2.o.row (by decide);exact(HI2.o.row.other (a:=⟨w.heap.size+1,0,none⟩) h1 _).other (a:=⟨w.heap.size+1,1,none⟩) h1 _
       ·have HRG:Hd (eU nx most g (KX,c2)=some res):=by
         have h:=XW.o;rw[aU hk]at h;exact h
        have hki:((c2:Int)==(c:Int))=false:=by rw[beq_eq_false_iff_ne];omega
        go_wp2;go_roundg g
        case measure=>omega
        case rel=>exact⟨v,KX,c2,HI2.o,TJ,hc2,HRG.o⟩
      | f+1,hlf,hlet=>
       rw[M2.aV]at hlet
       dsimp only at hlet
       have hl4:l<4:=by omega
       have aFa:(l:Int)<4:=by omega
       have hl3:3-f=l:=by omega
       rw[hl3]at hlet;by_cases aFb:most<c2
       ·rw[aP aFb]at hlet;simp only[Option.some.injEq,Prod.mk.injEq]at hlet;obtain⟨rfl,rfl⟩:=hlet;have aAi:¬(c2:Int)<=most:=by omega
        have hdm:=lT aAi;have hdl:=decide_eq_true aFa;have b1:=hI.box.cell 1 rfl;have HI2:=qH hI;by_cases hk:c2=c
        ·have HRS:Hd ((KX,c2)=res):=by
          have h:=XW.o;rw[aP hk]at h;exact dY h
         have hki:((c2:Int)==(c:Int))=true:=by rw[hk];simp
         obtain⟨va,kP,hv,-,-,-⟩:=hI.row.any;generalize KX.length=vl at hv;have b0:=hI.box.cell 0 rfl;rw[hv]at b0;have r0:=hI.res.cell 0 rfl;have r1:=hI.res.cell 1 rfl;have f0:=hI.res.free 0;have f1:=hI.res.free 1;have HV:=qH hv;clear hI hv hk TJ;go_wp2;refine bodyPost_ret (v:=.agg #[.slice va vl kP,I c2]) (by simp[results,results86,go_sem,r0,r1]) rfl ?_;rw[<-HRS.o];refine⟨?_,v,by rw[HV.o],?_⟩
         ·exact(HI2.o.md.setCell (a:=⟨w.heap.size+1,0,none⟩) (fun h=>absurd h (by simp)) _).setCell (a:=⟨w.heap.size+1,1,none⟩) (fun h=>absurd h (by simp)) _
         ·have h1:=HI2.o.res.apart HI2.o.row (by decide);exact(HI2.o.row.other (a:=⟨w.heap.size+1,0,none⟩) h1 _).other (a:=⟨w.heap.size+1,1,none⟩) h1 _
        ·have HRG:Hd (eU nx most g (KX,c2)=some res):=by
          have h:=XW.o;rw[aU hk]at h;exact h
         have hki:((c2:Int)==(c:Int))=false:=by rw[beq_eq_false_iff_ne];omega
         go_wp2;go_roundg g
         case measure=>omega
         case rel=>exact⟨v,KX,c2,HI2.o,TJ,hc2,HRG.o⟩
       ·rw[aU aFb]at hlet;have aAi:(c2:Int)<=most:=by omega
        have hdm:=decide_eq_true aAi;have hdl:=decide_eq_true aFa;cases hsm:sK (KX,c2) (nx.map fun r=>(r.get l).getD 0)with
        | none=>rw[hsm]at hlet;cases hlet
        | some r3=>
         obtain⟨of3,c3⟩:=r3;rw[hsm]at hlet;have aGq:Hd (M2.aV nx most f (of3,c3)=some (of1,k1)):=hlet;have hl5:of3.length=KX.length:=Jb hsm;have hc3:c3<=KX.length:=XV hsm;obtain⟨va,kP,hv,-,-,-⟩:=hI.row.any;have hcall:=HSP.o wr v KX c2 l (of3,c3) hI.md hI.row TJ (by omega) hl4 hsm;have b0:=hI.box.cell 0 rfl;have b1:=hI.box.cell 1 rfl;have HI2:=qH hI;have HO5:Hd (of3.length=nx.length∧c3<=300000):=⟨hl5.trans TJ,by have:=HNL.o;omega⟩;generalize KX.length=vl at hv;rw[hv]at b0 hcall;go_wp2_with fail;refine hcall.mono ?_;rintro e w3 ⟨m3,v3,rfl,hr3,ho3⟩;have hB3:=HI2.o.box.mod m3 (fun x=>x);have GY:=HI2.o.res.mod m3 (fun x=>x);obtain⟨va3,aHh,hv3,-,-,-⟩:=hr3.any;have aDM:=hB3.apart hr3 (by decide);have HI3:Hd (ReI w w.heap.size v3 of3 c3 ((w3.setCell (J w.heap.size 0) v3).setCell (J w.heap.size 1) (I c3))):=⟨(hB3.set 0 v3).set 1 _,(GY.other (a:=J w.heap.size 0) (by simp) _).other (a:=J w.heap.size 1) (by simp) _,(hr3.other (a:=J w.heap.size 0) aDM _).other (a:=J w.heap.size 1) aDM _,((HI2.o.md.no m3).setCell (a:=J w.heap.size 0) (fun h=>absurd h (by simp)) _).setCell (a:=J w.heap.size 1) (fun h=>absurd h (by simp)) _,dH _⟩;have s0:=hB3.cell 0 rfl;have s1:=hB3.cell 1 rfl;have t0:=hB3.free 0;have t1:=hB3.free 1;generalize of3.length=vl3 at hv3;have HV3:=qH hv3;rw[hv3]at HI3 ⊢;go_wp2;go_roundg f
         case measure=>omega
         case rel=>exact⟨l+1,_,of3,c3,by go_num,by omega,HI3.o,HO5.o.1,HO5.o.2,aGq.o⟩
theorem aGr(r:aI.R4)(l:Nat)(hl:l<4)(w:World):(Instr.index 102 (.agg #[I r.a,I r.b,I r.c,I r.d]) (I l)).run prog w=.ok (I (TF r l:Int)) w:=by
 obtain⟨a,b,c,d⟩:=r;have k0:∀(a b c d:Int) (w:World),(Instr.index 102 (.agg #[I a,I b,I c,I d]) (I 0)).run prog w=.ok (I a) w:=fun a b c d w=>by kernel_rfl
 have k1:∀(a b c d:Int) (w:World),(Instr.index 102 (.agg #[I a,I b,I c,I d]) (I 1)).run prog w=.ok (I b) w:=fun a b c d w=>by kernel_rfl
 have k2:∀(a b c d:Int) (w:World),(Instr.index 102 (.agg #[I a,I b,I c,I d]) (I 2)).run prog w=.ok (I c) w:=fun a b c d w=>by kernel_rfl
 have k3:∀(a b c d:Int) (w:World),(Instr.index 102 (.agg #[I a,I b,I c,I d]) (I 3)).run prog w=.ok (I d) w:=fun a b c d w=>by kernel_rfl
 match l,hl with
 | 0,_=>exact k0 _ _ _ _ w
 | 1,_=>exact k1 _ _ _ _ w
 | 2,_=>exact k2 _ _ _ _ w
 | 3,_=>exact k3 _ _ _ _ w
structure TI(w:World)(S:Nat)(vx vh vo:Value)(cn:Nat)(lx lh:Value)(au:M2.Auto)(wr:World):Prop where
 L9:aG wr S [vx,vh] 138
 TK:aG wr (S+1) [vo,I cn] 194
 res:aG wr (S+1+1) [.slice none 0 0,.slice none 0 0] 138
 kK:aG wr (S+1+1+1) [lx,lh] 138
 nx:Row nC wr lx au.nx
 hit:Row lD wr lh au.hit
 md:Mod No w wr
 ox:∀g,lx.ownBlock=some g->w.heap.size<=g
 oh:∀g,lh.ownBlock=some g->w.heap.size<=g
 le:w.heap.size<=S
section
variable {w:World} {S:Nat} {vx vh vo:Value} {cn:Nat} {lx lh:Value} {au:M2.Auto} {wr wr':World}
theorem TI.no(h:TI w S vx vh vo cn lx lh au wr)(hm:Mod No wr wr'):TI w S vx vh vo cn lx lh au wr':=⟨h.L9.mod hm (fun x=>x),h.TK.mod hm (fun x=>x),h.res.mod hm (fun x=>x),h.kK.mod hm (fun x=>x),h.nx.no hm,h.hit.no hm,h.md.no hm,h.ox,h.oh,h.le⟩
theorem TI.put{Q:Nat}{cs:List Value}(h:TI w S vx vh vo cn lx lh au wr)(hQ:aG wr Q cs 102)(h0:w.heap.size<=Q)(hx:lx.ownBlock≠some Q)(j:Nat)(v:Value):TI w S vx vh vo cn lx lh au (wr.setCell (J Q j) v):=⟨h.L9.other (a:=J Q j) (fun e=>hQ.diff h.L9 (by decide) e.symm) _,h.TK.other (a:=J Q j) (fun e=>hQ.diff h.TK (by decide) e.symm) _,h.res.other (a:=J Q j) (fun e=>hQ.diff h.res (by decide) e.symm) _,h.kK.other (a:=J Q j) (fun e=>hQ.diff h.kK (by decide) e.symm) _,h.nx.other (a:=J Q j) hx _,h.hit.other (a:=J Q j) (hQ.apart h.hit (by decide)) _,h.md.setCell (a:=J Q j) (fun e=>absurd e (by simp;omega)) _,h.ox,h.oh,h.le⟩
theorem TI.PK{XF:List aI.R4}(h:TI w S vx vh vo cn lx lh au wr)(hg:wr.grownBy w7 lx.ownBlock)(hrow:Row nC w7 v2 XF)(hf:aN wr lx v2):TI w S vx vh vo cn v2 lh ⟨XF,au.hit⟩ (w7.setCell ⟨S+1+1+1,0,none⟩ v2):=by
 have kb:∀{b:Nat} {cs:List Value} {T:Nat},aG wr b cs T->T≠102->aG w7 b cs T:=fun hb ht=>hb.grown hg (fun e=>hb.apart h.nx ht e.symm)
 have hht:Row lD w7 lh au.hit:=h.hit.grown hg (by
  cases e:lh.ownBlock with
  | none=>exact .inl rfl
  | some g=>exact .inr fun e2=>h.hit.apart h.nx (by decide) e e2.symm)
 have hA:=kb h.kK (by decide);have ho:∀g,v2.ownBlock=some g->w.heap.size<=g:=fun g e=>by
  rcases hf g e with h1 | h1
  ·exact h.ox g h1
  ·exact Nat.le_trans h.md.size h1
 have sH:=h.md.own (Mod.rH (S:=fun k=>lx.ownBlock=some k) hg fun g e=>e) fun k e=>h.ox k e
 have hle:=h.le;exact⟨(kb h.L9 (by decide)).other (a:=⟨S+1+1+1,0,none⟩) (show S≠S+1+1+1 by omega) _,(kb h.TK (by decide)).other (a:=⟨S+1+1+1,0,none⟩) (show S+1≠S+1+1+1 by omega) _,(kb h.res (by decide)).other (a:=⟨S+1+1+1,0,none⟩) (show S+1+1≠S+1+1+1 by omega) _,hA.set 0 v2,hrow.other (a:=⟨S+1+1+1,0,none⟩) (hA.apart hrow (by decide)) _,hht.other (a:=⟨S+1+1+1,0,none⟩) (hA.apart hht (by decide)) _,sH.setCell (a:=⟨S+1+1+1,0,none⟩) (fun e=>absurd e (by simp;omega)) _,ho,h.oh,h.le⟩
theorem TI.PL{ht2:List Bool}(h:TI w S vx vh vo cn lx lh au wr)(hg:wr.grownBy w7 lh.ownBlock)(hrow:Row lD w7 v2 ht2)(hf:aN wr lh v2):TI w S vx vh vo cn lx v2 ⟨au.nx,ht2⟩ (w7.setCell ⟨S+1+1+1,1,none⟩ v2):=by
 have kb:∀{b:Nat} {cs:List Value} {T:Nat},aG wr b cs T->T≠4->aG w7 b cs T:=fun hb ht=>hb.grown hg (fun e=>hb.apart h.hit ht e.symm)
 have hnx:Row nC w7 lx au.nx:=h.nx.grown hg (by
  cases e:lx.ownBlock with
  | none=>exact .inl rfl
  | some g=>exact .inr fun e2=>h.nx.apart h.hit (by decide) e e2.symm)
 have hA:=kb h.kK (by decide);have ho:∀g,v2.ownBlock=some g->w.heap.size<=g:=fun g e=>by
  rcases hf g e with h1 | h1
  ·exact h.oh g h1
  ·exact Nat.le_trans h.md.size h1
 have sH:=h.md.own (Mod.rH (S:=fun k=>lh.ownBlock=some k) hg fun g e=>e) fun k e=>h.oh k e
 have hle:=h.le;exact⟨(kb h.L9 (by decide)).other (a:=⟨S+1+1+1,1,none⟩) (show S≠S+1+1+1 by omega) _,(kb h.TK (by decide)).other (a:=⟨S+1+1+1,1,none⟩) (show S+1≠S+1+1+1 by omega) _,(kb h.res (by decide)).other (a:=⟨S+1+1+1,1,none⟩) (show S+1+1≠S+1+1+1 by omega) _,hA.set 1 v2,hnx.other (a:=⟨S+1+1+1,1,none⟩) (hA.apart hnx (by decide)) _,hrow.other (a:=⟨S+1+1+1,1,none⟩) (hA.apart hrow (by decide)) _,sH.setCell (a:=⟨S+1+1+1,1,none⟩) (fun e=>absurd e (by simp;omega)) _,h.ox,ho,h.le⟩
end
theorem aAj(of xs:List Nat)(rs:List aI.R4)(hs:List Bool)(x:Nat)(r:aI.R4)(h:Bool)(a b:M2.Auto)(e:jv of (x::xs) (r::rs) (h::hs) a=some b):if x<a.nx.length then jv of xs rs hs a=some b else ∃Nv:Nat->Nat,(∀l,l<4->of[TF r l]?=some (Nv l))∧jv of xs rs hs ⟨a.nx++[⟨Nv 0,Nv 1,Nv 2,Nv 3⟩],a.hit++[h]⟩=some b:=by
 rw[jv]at e;split
 ·rename_i hlt;rw[aP hlt]at e;exact e
 ·rename_i hlt;rw[aU hlt]at e;split at e
  ·rename_i p q u v hp hq hu hv;refine⟨fun l=>match l with | 0=>p | 1=>q | 2=>u | _=>v,fun l hl=>?_,e⟩
   match l,hl with
   | 0,_=>exact hp
   | 1,_=>exact hq
   | 2,_=>exact hu
   | 3,_=>exact hv
  ·cases e
end Go.Proofs.YtoebidlghdidoaaGreatDoor
