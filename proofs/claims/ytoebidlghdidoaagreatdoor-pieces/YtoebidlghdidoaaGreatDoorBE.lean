import Derived.Test.YtoebidlghdidoaaGreatDoorBD
set_option maxHeartbeats 8000000
set_option maxRecDepth 100000
namespace Go.Proofs.YtoebidlghdidoaaGreatDoor
open Tx Ld Th M2
open Tryz List
namespace Ld
variable {fin:List Nat} {i c:Nat}
def Qg(cl:List Nat)(i:Nat):Bool:=!((cl.take i).contains (cl.getD i 0))
def yV(cl:List Nat)(k:Nat):Nat:=((range k).filter (Qg cl)).length
theorem qR(cl:List Nat)(k:Nat):yV cl (k+1)=yV cl k+if Qg cl k=true then 1 else 0:=by
 unfold yV;rw[range_succ,filter_append,length_append];congr 1;by_cases h:Qg cl k=true <;> simp[h]
theorem Ua(a b:List Nat)(i:Nat)(h:a.take (i+1)=b.take (i+1)):Qg a i=Qg b i:=by
 have h1:a.take i=b.take i:=by
  have:=congrArg (take i) h
  rwa [take_take,take_take,Nat.min_eq_left (Nat.le_succ i)]at this
 have h2:a.getD i 0=b.getD i 0:=by
  have:=congrArg (fun l=>l[i]?) h;simp only[getElem?_take]at this;rw[aP (Nat.lt_succ_self i),aP (Nat.lt_succ_self i)]at this;rw[fM,fM,this]
 unfold Qg;rw[h1,h2]
theorem take_set(cl:List Nat)(i k v:Nat)(h:k<=i):(cl.set i v).take k=cl.take k:=by
 rw[take_set_of_le h]
theorem yX(cl:List Nat)(i v:Nat):∀k,k<=i->yV (cl.set i v) k=yV cl k
 | 0,_=>rfl
 | k+1,h=>by
  rw[qR,qR,yX cl i v k (by omega),Ua _ _ _ (take_set cl i (k+1) v h)]
theorem getD_set_ne(cl:List Nat)(i k v:Nat)(h:i≠k):(cl.set i v).getD k 0=cl.getD k 0:=by
 simp only[getD_eq_getElem?_getD,getElem?_set];rw[aU h]
theorem nK(cl:List Nat)(i v:Nat)(h:i<cl.length):(cl.set i v).getD i 0=v:=by
 simp only[getD_eq_getElem?_getD,getElem?_set];rw[aP trivial,aP h];rfl
theorem Ig(cl:List Nat)(i:Nat)(x:Nat)(h:x∈cl.take i):∃k,k<i∧cl.getD k 0=x:=by
 obtain⟨k,hk,rfl⟩:=mem_iff_getElem.1 h;have hk2:k<i∧k<cl.length:=by simpa [Nat.lt_min] using hk
 refine⟨k,hk2.1,?_⟩;rw[fM,bG hk2.2];simp
structure Cl(fin:List Nat)(i c:Nat):Prop where
 lt:∀k,k<i->fin.getD k 0<c
 le:c<=i
 fi:c<=yV fin i
 pos:0<i->0<c
theorem Cl.start(fin:List Nat):Cl fin 0 0:=⟨fun k h=>by omega,by omega,by omega,fun h=>by omega⟩
theorem Cl.fresh(h:Cl fin i c)(hi:i<fin.length):Cl (fin.set i c) (i+1) (c+1):=by
 refine⟨fun k hk=>?_,by have:=h.le;omega,?_,fun _=>by omega⟩
 ·by_cases e:i=k
  ·subst e;rw[nK fin i c hi];omega
  ·rw[getD_set_ne fin i k c e];have:=h.lt k (by omega);omega
 ·have hn:Qg (fin.set i c) i=true:=by
   unfold Qg;rw[nK fin i c hi,take_set fin i i c (dH _)];simp only[Bool.not_eq_true',contains_eq_mem,decide_eq_false_iff_not];intro hm;obtain⟨k,hk,hx⟩:=Ig fin i c hm;have:=h.lt k hk;omega
  rw[qR,hn,aP rfl,yX fin i c i (dH _)];have:=h.fi;omega
theorem Cl.old{j:Nat}(h:Cl fin i c)(hi:i<fin.length)(hj:j<i):Cl (fin.set i (fin.getD j 0)) (i+1) c:=by
 refine⟨fun k hk=>?_,by have:=h.le;omega,?_,fun _=>h.pos (by omega)⟩
 ·by_cases e:i=k
  ·subst e;rw[nK fin i _ hi];exact h.lt j hj
  ·rw[getD_set_ne fin i k _ e];exact h.lt k (by omega)
 ·rw[qR,yX fin i _ i (dH _)];have:=h.fi;omega
def pr(cl T:List Nat)(m i:Nat):Nat:=cl.getD i 0*m+cl.getD (T.getD i 0) 0
structure Sp(cl T:List Nat)(m:Nat)(met fin:List Nat)(i c:Nat):Prop where
 cls:Cl fin i c
 len:met.length=m*m
 old:∀p,met.getD p 0≠0->∃j,j<i∧pr cl T m j=p∧fin.getD j 0+1=met.getD p 0
 lo:yV cl i<=c
end Ld
namespace Ld
open Go.RowKit
variable {w:World} {v:Value} {aC:List St} {i:Nat} {q:St}
theorem nM(xs:List Nat)(i:Nat)(h:i<xs.length):xs[i]?=some (xs.getD i 0):=by
 rw[fM,bG h];rfl
theorem Ub{b o:Nat}(h:w.cell? (J b o)=some v)(x:Obj):(w.alloc x).cell? (J b o)=some v:=by
 have hb:b<w.heap.size:=by
  rcases iK b w.heap.size with h2 | h2
  ·exact h2
  ·simp[World.cell?,h2]at h
 unfold World.cell? at h ⊢;rw[Below.heap_alloc _ _ _ hb];exact h
theorem aA5{B:Nat}{a:World}(h:Below B a w):Below B a w.drew:=⟨h.os,h.tape,h.output,h.size,h.block⟩
structure Bk(wr:World)(S:Nat)(fin:List Nat)(n c:Nat):Prop where
 res:wr.heap[S]?=some (.cells #[.slice none 0 0,I 0] 194 (0,0))
 fin:wr.heap[S+1]?=some (.cells (iV fin) 3 (0,0))
 cur:wr.heap[S+1+1]?=some (.cells #[.slice (some ⟨S+1,0,none⟩) n n,I c] 194 (0,0))
section
variable {w:World} {S:Nat} {fin:List Nat} {n c:Nat}
theorem Bk.lt(h:Bk w S fin n c):S+2<w.heap.size:=(Array.getElem?_eq_some_iff.1 h.cur).1
theorem Bk.alloc(h:Bk w S fin n c)(o:Obj):Bk (w.alloc o) S fin n c:=by
 have hl:=h.lt;exact⟨(Below.heap_alloc _ _ _ (by omega)).trans h.res,(Below.heap_alloc _ _ _ (by omega)).trans h.fin,(Below.heap_alloc _ _ _ (by omega)).trans h.cur⟩
theorem Bk.count(h:Bk w S fin n c)(d:Nat):Bk (w.setCell ⟨S+1+1,1,none⟩ (I d)) S fin n d:=⟨aj h.res _ _ (by omega),aj h.fin _ _ (by omega),kL h.cur 1 _⟩
theorem Bk.put(h:Bk w S fin n c)(i x:Nat):Bk (w.setCell ⟨S+1,i,none⟩ (I x)) S (fin.set i x) n c:=⟨aj h.res _ _ (by omega),by rw[<-Hz];exact kL h.fin i _,aj h.cur _ _ (by omega)⟩
theorem Bk.drew(h:Bk w S fin n c):Bk w.drew S fin n c:=⟨h.res,h.fin,h.cur⟩
theorem Bk.drewN(h:Bk w S fin n c)(k:Nat):Bk (w.drewN k) S fin n c:=⟨h.res,h.fin,h.cur⟩
theorem Bk.start(w:World)(n:Nat):Bk (((w.alloc (.cells #[.slice none 0 0,I 0] 194)).alloc (.cells (iV (replicate n 0)) 3)).alloc (.cells #[.slice (some ⟨w.heap.size+1,0,none⟩) n n,I 0] 194)) w.heap.size (replicate n 0) n 0:=by
 constructor
 ·rw[Below.heap_alloc _ _ _ (by simp;omega),Below.heap_alloc _ _ _ (by simp)];exact heap_alloc_new w _
 ·rw[Below.heap_alloc _ _ _ (by simp)];simpa using heap_alloc_new (w.alloc (.cells #[.slice none 0 0,I 0] 194)) (.cells (iV (replicate n 0)) 3)
 ·simpa using heap_alloc_new ((w.alloc (.cells #[.slice none 0 0,I 0] 194)).alloc (.cells (iV (replicate n 0)) 3)) (.cells #[.slice (some ⟨w.heap.size+1,0,none⟩) n n,I 0] 194)
end
theorem aEC(A B C D A' B' C' D':ByteArray)(w:World):(Op.equalIn 10000 101 (.agg #[.string A,.string B,.string C,.string D]) (.agg #[.string A',.string B',.string C',.string D'])).run prog w=.ok ((A.toList==A'.toList)&&((B.toList==B'.toList)&&((C.toList==C'.toList)&&(D.toList==D'.toList)))) w:=by
 obtain⟨i0,af,-⟩:=info_parts aIG;rw[run_equalIn_array w 9999 _ _ underlying101 af,aEB];have e:∀(a b:ByteArray) (w:World),(Op.equalIn 9999 9 (.string a) (.string b)).run prog w=.ok (a.toList==b.toList) w:=fun a b w=>run_equalIn_string w 9998 9 a b underlying9
 rw[aIM];simp only[Op.eqItems,Nat.mul_one,Sem.run_bind,Sem.run_ite,Sem.run_pure,aFT,aFU,aFV,aFW,Result.andThen_ok,e];cases (A.toList==A'.toList) <;> cases (B.toList==B'.toList) <;> cases (C.toList==C'.toList) <;> cases (D.toList==D'.toList) <;> rfl
theorem YI{n:Nat}{fin:List Nat}{c:Nat}(hi:i<n)(hq:aC[i]?=some q):bsGo aC (n-i) i fin c=match jc q (aC.take i) 0 with
  | some j=>bsGo aC (n-(i+1)) (i+1) (fin.set i (fin.getD j 0)) c
  | none=>bsGo aC (n-(i+1)) (i+1) (fin.set i c) (c+1):=by
 obtain⟨k,hk⟩:∃k,n-i=k+1:=⟨n-i-1,by omega⟩;rw[hk,show n-(i+1)=k by omega,bsGo,fM,hq];rfl
theorem Qh{j:Nat}{p:St}(hj:j<i)(hp:aC[j]?=some p):jc q ((aC.take i).drop j) j=if JQ p q then some j else jc q ((aC.take i).drop (j+1)) (j+1):=by
 have h1:(aC.take i)[j]?=some p:=by rw[getElem?_take,aP hj,hp]
 obtain⟨h2,h3⟩:=bU h1;rw[kJ h2,h3,jc]
theorem toList_mk(l:List UInt8):(⟨l.toArray⟩:ByteArray).toList=l:=by rw[toList_data]
theorem Qi(v:Value)(aC:List St)(w:World)(hst:Sts w v aC)(h0:0<aC.length)(hl:aC.length<=200):J1 109 #[v] w fun e w'=>∃u,e=.returned (.agg #[u,I ((aIy aC).2:Int)])∧Ints w' u (aIy aC).1∧(aIy aC).1.length=aC.length∧(aIy aC).2<=aC.length∧Below w.heap.size w w':=by
 obtain⟨g,cap,rfl,hg,hcap⟩:=hst.form h0;have Qe:=fun(wx:World) (hb:Below w.heap.size w wx) (i:Nat) (q:St) (hq:aC[i]?=some q)=>(hst.below hb (dH _)).nine i q hq
 obtain⟨n,hn⟩:=eX aC.length;have hget:∀i,i<n->∃q,aC[i]?=some q:=fun i hi=>⟨aC[i]'(by omega),bG _⟩
 have HM:Hd (aIy aC=bsGo aC n 0 (replicate n 0) 0):=by show aIy aC=_;unfold aIy;rw[hn]
 rw[<-hn]at h0 hl hcap hst ⊢;have WH:Hd _:=Qe;have Fj:Hd _:=hget;have hmk:=iO n hl;clear hn hst Qe hget;go_enter func109,ntmps109;go_wp2;clear hmk
 go_loopw [14] (fun ii wr=>∃(fin:List Nat) (i c:Nat),i<=n∧ii=I i∧fin.length=n∧Cl fin i c∧bsGo aC (n-i) i fin c=aIy aC∧Bk wr w.heap.size fin n c∧Below w.heap.size w wr) (fun ii _=>n-(intOf ii).toNat)
 case atStart=>exact⟨replicate n 0,0,0,by omega,rfl,by simp,Cl.start _,HM.o.symm,Bk.start w n,(((Below.refl _ _).alloc (dH _) _).alloc (by simp) _).alloc (by simp;try omega) _⟩
 case round=>
  obtain⟨fin,i,c,hi,rfl,hfl,hC,hgo,hbk,hb⟩:=hrel;have hci:=hC.le;have HC:=qH hC;have hS2:=hbk.lt;have k0:=aO hbk.cur 0 _ rfl;have k1:=aO hbk.cur 1 _ rfl;simp only[getElem_toArray,getElem_cons_zero,getElem_cons_succ]at k0 k1;have SV:=qH hbk;by_cases hlt:i<n
  ·have cx:=aO hbk.fin i _ (mG fin i _ (nM fin i (by omega)));have fx:=bZ hbk.fin i;have cxA:=fun o=>Ub cx o
   have fxA:=fun o=>bZ (hbk.alloc o).fin i
   obtain⟨q,hq⟩:=Fj.o i hlt;have Jg:Hd (_=aIy aC):=(YI hlt hq).symm.trans hgo;have HQ:=qH hq;obtain⟨S0,S1,S2,S3,S4,N0,N1,N2,N3,hSQ,a0,a1,a2,a3,a4,a5,a6,a7,a8⟩:=WH.o wr hb i q hq;have hii:(i:Int)<=cap:=by omega
   have hn1:¬w.heap.size+1=wr.heap.size:=by omega
   have hn2:¬w.heap.size+1+1=wr.heap.size:=by omega
   have HQB:Hd (∀o,((wr.alloc o).setCell ⟨w.heap.size+1,i,none⟩ (I c)).heap[wr.heap.size]?=some o):=fun o=>aj (heap_alloc_new wr o) _ _ (by omega)
   have HFB:=qH fun o=>(SV.o.alloc o).put i c
   have HB':Hd (∀o,Below w.heap.size w ((wr.alloc o).setCell ⟨w.heap.size+1,i,none⟩ (I c))):=fun o=>(hb.alloc (by omega) o).setCell (p:=⟨w.heap.size+1,i,none⟩) (by simp) _
   have HSQ:Hd _:=hSQ;clear hbk hC hq hSQ hgo;go_wp2;obtain⟨H,hH⟩:=eX wr.heap.size;have hHw:w.heap.size+2<H:=by omega
   rw[<-hH]at HQB;rw[<-hH];clear hH
   go_loopw [29] (fun jj wx=>∃(j:Nat),j<=i∧jj=I j∧jc q ((aC.take i).drop j) j=jc q (aC.take i) 0∧Bk wx w.heap.size (fin.set i c) n c ∧wx.heap[H]?=some (.cells #[.string S0,.string S1,.string S2,.string S3,.string S4,I N0,I N1,I N2,I N3] 104 (0,0))∧Below w.heap.size w wx) (fun jj _=>i-(intOf jj).toNat)
   case atStart=>exact⟨0,by omega,rfl,rfl,HFB.o _,HQB.o _,HB'.o _⟩
   case round=>
    obtain⟨j,hj,rfl,hfd,hbk,y7,hb2⟩:=hrel;have hl2:(fin.set i c).length=n:=by simp[hfl]
    clear cx fx cxA fxA HFB HQB HB' a0 a1 a2 a3 a4 a5 a6 a7 a8 k0 k1 SV hn1 hn2;have HB2:=qH hbk;have Xx:Hd _:=y7;have hS3:=hbk.lt;by_cases hji:j<i
    ·have q0:=aO y7 0 _ rfl;have q1:=aO y7 1 _ rfl;have q2:=aO y7 2 _ rfl;have q3:=aO y7 3 _ rfl;have q4:=aO y7 4 _ rfl;simp only[getElem_toArray,getElem_cons_zero,getElem_cons_succ]at q0 q1 q2 q3 q4;have hqs:=(Array.getElem?_eq_some_iff.1 y7).1;have hqn:¬H=wr.heap.size:=by omega
     have hjc:=HC.o.lt j hji;obtain⟨x,hx⟩:=eX (fin.getD j 0);rw[<-hx]at hjc;have HX:=qH hx;obtain⟨p,hp⟩:=Fj.o j (by omega);have HFD:Hd (_=jc q (aC.take i) 0):=(Qh hji hp).symm.trans hfd;obtain⟨T0,T1,T2,T3,T4,M0,M1,M2,M3,hSP,b0,b1,b2,b3,b4,b5,b6,b7,b8⟩:=WH.o wr hb2 j p hp;have hbb:=aEC T1 T2 T3 T4 S1 S2 S3 S4;obtain⟨bb,hbe⟩:=eX ((T1.toList==S1.toList)&&((T2.toList==S2.toList)&&((T3.toList==S3.toList)&&(T4.toList==S4.toList))));rw[<-hbe]at hbb;have HSM:Hd (JQ p q=((T0.toList==S0.toList)&&bb)):=qH <| by
      obtain⟨e1,e2,-⟩:=hSP;obtain⟨d1,d2,-⟩:=HSQ.o;simp only[St.JP,map_cons,map_nil,List.cons.injEq,and_true]at e2 d2;rw[hbe,e1,e2.1,e2.2.1,e2.2.2.1,e2.2.2.2,d1,d2.1,d2.2.1,d2.2.2.1,d2.2.2.2];simp only[toList_mk];rfl
     have HFA:=qH fun o=>HB2.o.alloc o
     have HQA:Hd (∀o,(wr.alloc o).heap[H]?=some (.cells #[.string S0,.string S1,.string S2,.string S3,.string S4,I N0,I N1,I N2,I N3] 104 (0,0))):=fun o=>by rw[Below.heap_alloc _ _ _ (by omega)];exact Xx.o
     have HBA:=qH fun o=>hb2.alloc (by omega) o
     clear hx y7 hp hbk hfd hbe hSP;by_cases hT:T0.toList=S0.toList
     ·have hTb:(T0.toList==S0.toList)=true:=by rw[hT];simp
      cases bb with
      | true=>
       have HG2:Hd (bsGo aC (n-(i+1)) (i+1) (fin.set i x) c=aIy aC):=by
        have h1:=HFD.o;rw[HSM.o,hTb]at h1;simp only[Bool.and_self,if_true]at h1;have h2:=Jg.o;rw[<-h1]at h2;rw[HX.o];exact h2
       have hxc:((x:Int)==(c:Int))=false:=by
        rw[beq_eq_false_iff_ne];omega
       have HC2:Hd (Cl (fin.set i x) (i+1) c):=by
        have:=HC.o.old (by omega) hji;rw[<-HX.o]at this;exact this
       go_wp2;generalize JX:wr.alloc (.cells #[.string T0,.string T1,.string T2,.string T3,.string T4,I M0,I M1,I M2,I M3] 104)=wa;have hba:=HFA.o (Obj.cells #[.string T0,.string T1,.string T2,.string T3,.string T4,I M0,I M1,I M2,I M3] 104);have hbl:=HBA.o (Obj.cells #[.string T0,.string T1,.string T2,.string T3,.string T4,I M0,I M1,I M2,I M3] 104);rw[JX]at hba hbl;clear JX q0 q1 q2 q3 q4 b0 b1 b2 b3 b4 b5 b6 b7 b8 hbb HFA HQA HBA;have k0:=aO hba.cur 0 _ rfl;simp only[getElem_toArray,getElem_cons_zero]at k0;have cj:=aO hba.fin j _ (mG _ j _ (nM (fin.set i c) j (by omega)));rw[getD_set_ne fin i j c (by omega),<-HX.o]at cj;have ci:=aO hba.fin i _ (mG _ i _ (nM (fin.set i c) i (by omega)));have fi:=bZ hba.fin i;have hni:(i:Int)<n:=by omega
       have hnj:(j:Int)<n:=by omega
       have HWA:=qH hba;clear hba
       go_region
       go_wp2;generalize hwb:(wa.setCell ⟨w.heap.size+1,i,none⟩ (I x)).drew=wb;have hbb:Bk wb w.heap.size (fin.set i x) n c:=by
        rw[<-hwb];have:=(HWA.o.put i x).drew;rw[set_set]at this;exact this
       have aA2:Below w.heap.size w wb:=by
        rw[<-hwb];exact aA5 (hbl.setCell (p:=⟨w.heap.size+1,i,none⟩) (by simp) _)
       clear hwb k0 cj ci fi HWA hbl;have k0:=aO hbb.cur 0 _ rfl;have k1:=aO hbb.cur 1 _ rfl;simp only[getElem_toArray,getElem_cons_zero,getElem_cons_succ]at k0 k1;have ci:=aO hbb.fin i _ (mG _ i _ (nM (fin.set i x) i (by simp;omega)));rw[nK fin i x (by omega)]at ci;have HBB:=qH hbb;clear hbb;go_quiet (fail);go_wp2
       go_roundw
       case rel=>exact⟨fin.set i x,i+1,c,by omega,by go_num,by simp[hfl],HC2.o,HG2.o,HBB.o.drewN _,sD aA2 _⟩
       case measure=>simp[intOf];omega
      | false=>
       have HF2:Hd (jc q ((aC.take i).drop (j+1)) (j+1)=jc q (aC.take i) 0):=by
        have h1:=HFD.o;rw[HSM.o,Bool.and_false]at h1;simp only[Bool.false_eq_true,if_false]at h1;exact h1
       go_wp2
       go_roundw
       case rel=>exact⟨j+1,by omega,by go_num,HF2.o,HFA.o _,HQA.o _,HBA.o _⟩
       case measure=>simp[intOf];omega
     ·have hTb:(T0.toList==S0.toList)=false:=by simpa using hT
      have HF2:Hd (jc q ((aC.take i).drop (j+1)) (j+1)=jc q (aC.take i) 0):=by
       have h1:=HFD.o;rw[HSM.o,hTb,Bool.false_and]at h1;simp only[Bool.false_eq_true,if_false]at h1;exact h1
      clear hbb;go_wp2
      go_roundw
      case rel=>exact⟨j+1,by omega,by go_num,HF2.o,HFA.o _,HQA.o _,HBA.o _⟩
      case measure=>simp[intOf];omega
    ·have k0:=aO hbk.cur 0 _ rfl;have k1:=aO hbk.cur 1 _ rfl;have fk1:=bZ hbk.cur 1;simp only[getElem_toArray,getElem_cons_zero,getElem_cons_succ]at k0 k1;have ci:=aO hbk.fin i _ (mG _ i _ (nM (fin.set i c) i (by omega)));rw[nK fin i c (by omega)]at ci;have hni:(i:Int)<n:=by omega
     have HG2:Hd (bsGo aC (n-(i+1)) (i+1) (fin.set i c) (c+1)=aIy aC):=by
      have h0:(aC.take i).drop j=[]:=drop_of_length_le (by rw[length_take];omega);rw[h0]at hfd;have h2:=Jg.o;rw[<-hfd]at h2;exact h2
     clear hbk y7 hfd;have HC2:=qH (HC.o.fresh (by omega));go_wp2;go_quiet (fail);go_wp2
     go_roundw
     case rel=>
      refine⟨fin.set i c,i+1,c+1,by omega,by go_num,by simp[hfl],HC2.o,HG2.o,?_,?_⟩
      ·rw[show (c:Int)+1=((c+1:Nat):Int) by omega];exact(HB2.o.drewN _).count (c+1)
      ·exact(sD hb2 _).setCell (p:=⟨w.heap.size+1+1,1,none⟩) (by simp;omega) _
     case measure=>simp[intOf];omega
  ·obtain rfl:i=n:=by omega
   have y0:=aO hbk.res 0 _ rfl;have y1:=aO hbk.res 1 _ rfl;have fy0:=bZ hbk.res 0;have fy1:=bZ hbk.res 1;clear hbk hC;go_wp2;refine bodyPost_ret (v:=.agg #[.slice (some ⟨w.heap.size+1,0,none⟩) i i,I c]) (by simp[results,results109,go_sem,y0,y1]) rfl ?_;have HE:Hd (aIy aC=(fin,c)):=by rw[<-hgo,Nat.sub_self];rfl
   rw[HE.o];refine⟨_,rfl,?_,hfl,hci,(hb.setCell (p:=J w.heap.size 0) (by simp) _).setCell (p:=J w.heap.size 1) (by simp) _⟩;have h3:=aj (q:=w.heap.size) (aj (q:=w.heap.size) SV.o.fin 0 (.slice (some ⟨w.heap.size+1,0,none⟩) i i) (by omega)) 1 (I c) (by omega);have hin2:=Ints.of_block h3 (by omega);rw[hfl]at hin2;exact hin2
theorem aA6{xs:List Nat}(h:Ints w v xs):Row dh w v xs:=by
 have e:xs.flatMap dh.f=xs.map fun(x:Nat)=>I x:=by
  clear h
  induction xs with
  | nil=>rfl
  | cons a xs ih=>rw[flatMap_cons,map_cons,ih];rfl
 unfold Row;rw[e];exact h
theorem aED(h:Nx w v (aC.map St.r4)):Row nC w v (aC.map q4):=by
 have e:(aC.map q4).flatMap nC.f=wJ (aC.map St.r4):=by
  clear h
  induction aC with
  | nil=>rfl
  | cons a xs ih=>rw[map_cons,flatMap_cons,ih];rfl
 unfold Row;rw[e,length_map];unfold Nx at h;rw[length_map]at h;exact h
theorem IC(v:Value)(aC:List St)(w:World)(hst:Sts w v aC)(h0:0<aC.length)(hl:aC.length<=200){F:Nat}{res:List Nat × Nat}(hM:M2.eU (aC.map q4) 200 F (aIy aC)=some res):J1 73 #[v] w fun e w'=>e=.returned (.bool ((res.2:Int)==(aC.length:Int)))∧Below w.heap.size w w':=by
 have hsaid:=Qi v aC w hst h0 hl;have hnext:=fun(wx:World) (hb:Below w.heap.size w wx)=>IB v aC wx (hst.below hb (dH _)) h0 hl
 obtain⟨g,cap,rfl,hg,hcap⟩:=hst.form h0;obtain⟨fin,hfin⟩:=eX ((aIy aC).1);obtain⟨c,hc⟩:=eX ((aIy aC).2);have hM2:M2.eU (aC.map q4) 200 F (fin,c)=some res:=by rw[hfin,hc];exact hM
 rw[<-hfin,<-hc]at hsaid;have qj:=fun(vo vn:Value) (wx:World) (h1:Row dh wx vo fin) (h2:Row nC wx vn (aC.map q4)) (h3:fin.length=aC.length) (h4:c<=aC.length)=>G8 wx vo vn fin c 200 (aC.map q4) h1 h2 (by omega) (by omega) (by rw[length_map];exact h0) (by rw[length_map];omega) (by rw[length_map];exact h3) hM2
 obtain⟨n,hn⟩:=eX aC.length;rw[<-hn]at h0 hl hcap hsaid hnext qj ⊢;have pV:Hd _:=hnext;have XW:Hd _:=qj;have HN:Hd ((aC.map St.r4).length=n):=qH <| by rw[hn];simp
 clear hn hst hnext qj hM hM2 hfin hc;go_enter func73,ntmps73;go_wp2_with fail;refine hsaid.mono ?_;rintro e w1 ⟨u,rfl,hints,hfl,hcn,hb⟩;obtain⟨g6,cap6,rfl,-,-⟩:=hints.form (by rw[hfl];exact h0);rw[hfl]at hints ⊢;have HI:=qH hints;have hsz1:=hb.size;clear hsaid hints;go_wp2_with fail;refine(pV.o _ (hb.alloc hsz1 _)).mono ?_;rintro e w2 ⟨vn,rfl,hnx,hb2⟩;obtain⟨g7,aHd,rfl,-,-⟩:=hnx.form (by rw[HN.o];exact h0);rw[HN.o]at hnx ⊢;have hblk:w2.heap[w1.heap.size]?=some (.cells #[Jn g6 n cap6,I c] 194 (0,0)):=(hb2.block _ (by simp)).trans (heap_alloc_new w1 _);have hsz2:w1.heap.size+1<=w2.heap.size:=by have:=hb2.size;simpa using this
 have hb3:=(hb.alloc hsz1 _).trans (hb2.mono (by simp;omega));have hb4:=((Below.refl _ _).alloc (dH _) _).trans (hb2.mono (by simp));have x0:=aO hblk 0 _ rfl;have x1:=aO hblk 1 _ rfl;simp only[getElem_toArray,getElem_cons_zero,getElem_cons_succ]at x0 x1;have hcall:=XW.o (Jn g6 n cap6) (Jn g7 n aHd) w2 (aA6 (HI.o.below hb4 (dH _))) (aED hnx) hfl hcn;clear hnx hblk hb2 hb4;go_wp2_with fail;refine hcall.mono ?_;rintro e w3 ⟨m3,v3,rfl,hrow3⟩;obtain⟨a8,n8,c8,rfl⟩:=hrow3.any.elim fun a h=>h.elim fun c h=>(⟨a,_,c,h.1⟩:∃a n c,v3=.slice a n c)
 have hb6:=hb3.trans (m3.below.mono hb3.size);have hsz3:=hb6.size;clear hcall hrow3 x0 x1 m3;go_wp2;go_ret;exact⟨rfl,hb6.alloc hsz3 _⟩
def Dv(aC:List St)(b:Bool):Prop:=(lK aC=false∧b=false)∨(lK aC=true∧Within aC∧(((∀sets,Good aC sets->Fixed aC sets->sets.any uN=true)∧b=false)∨((∀sets,Good aC sets->Fixed aC sets->sets.any uN=false)∧∃F res,M2.eU (aC.map q4) 200 F (aIy aC)=some res∧b=((res.2:Int)==(aC.length:Int)))))
theorem AV(v:Value)(aC:List St)(w:World)(hst:Sts w v aC)(h0:0<aC.length)(hl:aC.length<=200){b:Bool}(hS:Dv aC b):J1 41 #[v] w fun e w'=>e=.returned (.bool b)∧Below w.heap.size w w':=by
 have hnum:=Hu v aC w hst h0 hl;have PN:=fun(wx:World) (hb:Below w.heap.size w wx)=>hst.below hb (dH _)
 rcases hS with ⟨hN,rfl⟩ | ⟨hN,hW,hcase⟩
 ·rw[hN]at hnum;clear hN PN;go_enter func41,ntmps41;go_wp2_with fail;refine hnum.mono ?_;rintro e w1 ⟨rfl,hb⟩;clear hnum;go_wp2_with fail;go_ret;exact⟨rfl,hb⟩
 ·rw[hN]at hnum;have HW:=qH hW;clear hN hW;go_enter func41,ntmps41;go_wp2_with fail;refine hnum.mono ?_;rintro e w1 ⟨rfl,hb⟩;have aA7:=Qd v aC w1 (PN w1 hb) h0 hl HW.o;clear hnum;go_wp2_with fail;refine aA7.mono ?_;rintro e w2 ⟨⟨sets,hgood,hfix,rfl⟩,hb2⟩;have hb3:=hb.trans (hb2.mono hb.size);clear aA7 hb2;rcases hcase with ⟨hall,rfl⟩ | ⟨hall,F,res,hM,rfl⟩
  ·have hA:=hall sets hgood hfix;rw[hA];clear hA hall hgood hfix PN;go_wp2_with fail;go_ret;exact⟨rfl,hb3⟩
  ·have hA:=hall sets hgood hfix;rw[hA];have hdiff:=IC v aC w2 (PN w2 hb3) h0 hl hM;clear hA hall hgood hfix PN hM;go_wp2_with fail;refine hdiff.mono ?_;rintro e w3 ⟨rfl,hb4⟩;clear hdiff;go_wp2_with fail;go_ret;exact⟨rfl,hb3.trans (hb4.mono hb3.size)⟩
def aEE(s:ByteArray)(r:Option (List St)):Prop:=(cZ s s.size 0 []=none∧r=none)∨(cZ s s.size 0 []=some []∧r=none)∨∃aC,cZ s s.size 0 []=some aC∧0<aC.length∧((Dv aC false∧r=none)∨(Dv aC true∧r=some aC))
def aFX(r:Option (List St))(w:World)(e:Ending)(w':World):Prop:=Below w.heap.size w w'∧match r with
 | none=>e=.returned (.tuple #[.pointer none,I 7])
 | some aC=>∃m v,e=.returned (.tuple #[Jx m 0,I 0])∧w'.heap[m]?=some (.cells #[v] 99 (0,0))∧Sts w' v aC
theorem YJ(s:ByteArray)(w:World)(hs:s.size<=1048576){r:Option (List St)}(hL:aEE s r):J1 15 #[.string s] w fun e w'=>aFX r w e w':=by
 have hread:=Ht s w hs;unfold zl at hread;rcases hL with ⟨hR,rfl⟩ | ⟨hR,rfl⟩ | ⟨aC,hR,h0,hcase⟩
 ·rw[hR]at hread;clear hR;go_enter func15,ntmps15;go_wp2_with fail;refine hread.mono ?_;rintro e w1 ⟨hb,rfl⟩;clear hread;go_wp2_with fail;go_ret2;exact⟨hb,rfl⟩
 ·rw[hR]at hread;have hd:decide (0<([]:List St).length)=false:=rfl;simp only[hd]at hread;clear hR hd;go_enter func15,ntmps15;go_wp2_with fail;refine hread.mono ?_;rintro e w1 ⟨hb,hl,v,rfl,hown⟩;clear hread;go_wp2_with fail;go_ret2;exact⟨hb,rfl⟩
 ·rw[hR]at hread;simp only at hread;have hd:=decide_eq_true h0;rw[hd]at hread;clear hd hR;go_enter func15,ntmps15;go_wp2_with fail;refine hread.mono ?_;rintro e w1 ⟨hb,hl,v,rfl,hown⟩;have hst:Sts w1 v aC:=own_base hown (Nat.zero_le _);obtain⟨g,cap,rfl,hg,hcap⟩:=hst.form h0;have HST:=qH hst;clear hread hown;rcases hcase with ⟨hS,rfl⟩ | ⟨hS,rfl⟩
  ·have IE:=AV _ aC w1 hst h0 hl hS;clear hst hS;go_wp2_with fail;refine IE.mono ?_;rintro e w2 ⟨rfl,hb2⟩;have hb3:=hb.trans (hb2.mono hb.size);clear IE HST hb2;go_wp2_with fail;go_ret2;exact⟨hb3,rfl⟩
  ·have IE:=AV _ aC w1 hst h0 hl hS;clear hst hS;go_wp2_with fail;refine IE.mono ?_;rintro e w2 ⟨rfl,hb2⟩;have hb3:=hb.trans (hb2.mono hb.size);have aCt:=qH (HST.o.below hb2 (dH _));have hsz:=hb3.size;clear IE HST hb2;go_wp2_with fail;go_ret2;exact⟨hb3.alloc hsz _,_,_,rfl,heap_alloc_new w2 _,aCt.o.below ((Below.refl w2.heap.size w2).alloc (dH _) _) (dH _)⟩
end Ld
section
open Go.RowKit
attribute [local go_sem ↓] Go.wp_at_zero Go.wp_at_succ
variable {limit k m b:Nat} {aC:List iL} {l:List UInt8} {rs:List aI.Rule} {v:M2.View} {w w':World}
theorem MZ(w:World)(m:Nat)(aC:List iL)(h:lC w m aC):J1 13 #[Jx m 0] w fun e w'=>e=.returned (I aC.length)∧w'=w:=by
 obtain⟨v,hb,hst⟩:=h;obtain⟨a,cap,rfl,-,-,-⟩:=Row.any (E:=BO) (xs:=aC) hst;have c0:=hb.cell 0 rfl;generalize aC.length=n at c0;go_enter func13,ntmps13;go_wp2;go_ret;exact⟨rfl,rfl⟩
def noV:Value:=.agg #[I 0,.string ⟨#[]⟩,.string ⟨#[]⟩,.string ⟨#[]⟩,.string ⟨#[]⟩,I 0]
theorem Qj(w:World)(s:ByteArray):J1 11 #[.string s,I 0] w fun e w'=>e=.returned (.tuple #[.pointer none,noV,I 6])∧Mod No w w':=by
 go_enter func11,ntmps11;go_wp2;refine bodyPost_ret (v:=.tuple #[.pointer none,.agg #[I 0,.string ⟨#[]⟩,.string ⟨#[]⟩,.string ⟨#[]⟩,.string ⟨#[]⟩,I 0],I 6]) (by simp[results,results11,go_sem]) rfl ⟨rfl,?_⟩;exact(Mod.refl _ _).alloc _
theorem aFY:(match M3.compile 200 [97,62,66,10]with
 | some r=>decide (r.2.1=0)&&decide (r.2.2=0)
 | none=>false)=true:=by decide +kernel
theorem IG(w:World):J1 11 #[.string ⟨#[97,62,66,10]⟩,I 200] w fun e w'=>(∃m,e=.returned (.tuple #[Jx m 0,noV,I 0]))∧Mod No w w':=by
 have h:=aFY;split at h
 ·rename_i r hr;have h2:r.2.2=0:=by simpa using(Bool.and_eq_true_iff.1 h).2
  refine(wG w ⟨#[97,62,66,10]⟩ (by decide) 200 (by omega) (by omega) hr).mono ?_;rintro e w' ⟨hm,⟨-,m,he,-⟩ | ⟨h3,-⟩⟩
  ·exact⟨⟨m,he⟩,hm⟩
  ·exact absurd h2 h3
 ·cases h
theorem BR(w:World)(l:List Th.LR)(hl:(aQ l).length<=1048576)(h1:1<=limit)(h2:limit<=200)(hk:k≠0)(hM:M3.compile limit (aQ l)=some ([],0,k)):J1 11 #[.string (sb (aQ l)),I limit] w fun e w'=>(∃X Y Z1 Z2 c,e=.returned (.tuple #[.pointer none,.agg #[I 0,.string X,.string Y,.string Z1,.string Z2,I c],I k])∧aAU (aQ l) X Y Z1 Z2 c)∧Mod No w w':=by
 have e0:(sb (aQ l)).data.toList=aQ l:=by simp
 have h:=wG w (sb (aQ l)) (by rw[ai];exact hl) limit h1 h2 (r:=([],0,k)) (by rw[e0];exact hM);rw[e0]at h;refine h.mono ?_;rintro e w' ⟨hm,⟨h3,-⟩ | ⟨-,hx⟩⟩
 ·exact absurd h3 hk
 ·exact⟨hx,hm⟩
theorem Jv(w:World)(l:List Th.LR)(hl:(aQ l).length<=1048576)(h1:1<=limit)(h2:limit<=200)(hM:M3.compile limit (aQ l)=some (aC,0,0)):J1 11 #[.string (sb (aQ l)),I limit] w fun e w'=>(∃m,e=.returned (.tuple #[Jx m 0,noV,I 0])∧lC w' m aC)∧Mod No w w':=by
 have e0:(sb (aQ l)).data.toList=aQ l:=by simp
 have h:=wG w (sb (aQ l)) (by rw[ai];exact hl) limit h1 h2 (r:=(aC,0,0)) (by rw[e0];exact hM);refine h.mono ?_;rintro e w' ⟨hm,⟨-,m,he,hk⟩ | ⟨h3,-⟩⟩
 ·exact⟨⟨m,he,hk⟩,hm⟩
 ·exact absurd rfl h3
theorem Uc(h1:aI.cZ 1000 l 0 []=some (rs,0,0))(h2:rs.length≠0)(h3:M3.view rs=some none):M3.compile limit l=some ([],0,3):=by
 unfold M3.compile;rw[h1];simp[h2,h3]
theorem Ud{x:pY}(h1:aI.cZ 1000 l 0 []=some (rs,0,0))(h2:rs.length≠0)(h3:M3.view rs=some (some v))(h4:M3.states v limit=some none)(h5:M3.find v=some (some x)):M3.compile limit l=some ([],0,4):=by
 unfold M3.compile;rw[h1];simp[h2,h3,h4,h5]
theorem II(h1:aI.cZ 1000 l 0 []=some (rs,0,0))(h2:rs.length≠0)(h3:M3.view rs=some (some v))(h4:M3.states v limit=some none)(h5:M3.find v=some none):M3.compile limit l=some ([],0,5):=by
 unfold M3.compile;rw[h1];simp[h2,h3,h4,h5]
theorem IJ(h1:aI.cZ 1000 l 0 []=some (rs,0,0))(h2:rs.length≠0)(h3:M3.view rs=some (some v))(h4:M3.states v limit=some (some aC))(h5:aC.length<=1000):M3.compile limit l=some (aC,0,0):=by
 unfold M3.compile;rw[h1];simp[h2,h3,h4,h5]
theorem Qk(h1:aI.cZ 1000 l 0 []=some ([],0,2)):M3.compile limit l=some ([],0,2):=by
 unfold M3.compile;rw[h1];simp
def aEF(x:Nat):Bool:=x.testBit 8||(range 9).any fun i=>(range 9).any fun k=>i != k&&(x.testBit i&&x.testBit k)
theorem aA8:∀x,x<512->aEF x=true->uN x=false:=by decide +kernel
theorem Ql{x i:Nat}(hx:x<512)(h:x.testBit i=true):i<9:=by
 apply Classical.byContradiction;intro hi;have:=Nat.testBit_lt_two_pow (x:=x) (i:=i) (Nat.lt_of_lt_of_le (show x<2^9 from hx) (Nat.pow_le_pow_right (by decide) (show 9<=i by omega)));rw[h]at this;cases this
theorem Ue(h:JS aC):Dv aC true:=by
 obtain⟨of,hof⟩:=h.differ;refine Or.inr ⟨h.num,h.inn,Or.inr ⟨fun sets hg hf=>?_,201,(of,aC.length),hof,?_⟩⟩
 ·rw[any_eq_false];intro x hx;obtain⟨h1,h2⟩:=h.early sets hg hf x hx;have h3:aEF x=true:=by
   unfold aEF;rw[Bool.or_eq_true];refine h2.imp id fun⟨i,k,h3,h4,h5⟩=>any_eq_true.2 ⟨i,mem_range.2 (Ql h1 h4),any_eq_true.2 ⟨k,mem_range.2 (Ql h1 h5),?_⟩⟩
   rw[h4,h5];simpa using h3
  rw[aA8 x h1 h3];decide
 ·simp
theorem aA9(w:World)(h:JS aC):J1 15 #[.string ⟨(bV aC).toArray⟩] w fun e w'=>(∃m,e=.returned (.tuple #[Jx m 0,I 0])∧lC w' m aC)∧Mod No w w':=by
 refine(YJ ⟨(bV aC).toArray⟩ w (by show (bV aC).toArray.size<=_;simpa using h.small) (r:=some aC) (Or.inr (Or.inr ⟨aC,h.read,h.pos,Or.inr ⟨Ue h,rfl⟩⟩))).mono ?_;rintro e w' ⟨hb,m,v,he,hm,hs⟩;exact⟨⟨m,he,v,hm,hs⟩,Mod.of_below hb⟩
theorem aBa(B:Nat)(w:World)(htab:Lib.TabBelow prog B w uI .u64 Lib.pow10Tab)(h:JS aC)(hm:lC w m aC):J1 14 #[Jx m 0] w fun e w'=>e=.returned (.string ⟨(bV aC).toArray⟩)∧Mod No w w':=by
 obtain⟨v,hb,hst⟩:=hm;refine(aAT m v aC w (hb.cell 0 rfl) hst h.pos h.le (fun q hq t ht=>Nat.lt_of_lt_of_le (h.inn q hq t ht) h.le) h.small htab.here).mono ?_;rintro e w' ⟨he,hbl⟩;exact⟨he,Mod.of_below hbl⟩
theorem lC.only{cs:List Value}(h:lC w m aC)(hb:aG w b cs 31)(hm:Mod (fun k=>k=b) w w'):lC w' m aC:=by
 obtain⟨v,h1,h2⟩:=h;exact⟨v,h1.mod hm (h1.diff hb (by decide)),h2.mod hm (fun g hg e=>hb.apart h2 (by decide) (by rw[hg,e]))⟩
theorem Uf{B:Nat}(hm:Mod (fun k=>k=b) w w')(h1:B<=b)(h2:B<=w.heap.size):Below B w w':=⟨hm.os,hm.tape,hm.output,hm.size,fun k hk=>hm.block k (by omega) (by omega)⟩
theorem BU(w:World)(b:Nat)(la:Option Addr)(q lc:Nat)(nv wv:Value)(ps:List (Th.LR × Value))(l:List Th.LR)(hb:aG w b [.slice la q lc,.string (sb (aQ l)),nv,wv] 31)(_hL:nZ w (.slice la q lc) ps)(hq:q=l.length)(_hps:ps.map Prod.fst=l)(hok:∀a∈l,a.Ok)(h5:q<=5)(hk:(k=2∧(q<1∨4<q))∨((k=3∨k=5)∧1<=q∧q<=4))(hM:M3.compile 200 (aQ l)=some ([],0,k)):J1 7 #[Jx b 0] w fun e w'=>e=.returned (.bool true)∧Mod No w w':=by
 have HB:=qH hb;have hlen:(aQ l).length<=1048576:=by have:=mr l hok;omega
 have HC:Hd (∀wx,J1 11 #[.string (sb (aQ l)),I 200] wx fun e w'=>(∃X Y Z1 Z2 c,e=.returned (.tuple #[.pointer none,.agg #[I 0,.string X,.string Y,.string Z1,.string Z2,I c],I k])∧aAU (aQ l) X Y Z1 Z2 c)∧Mod No wx w'):=fun wx=>BR wx l hlen (limit:=200) (by omega) (by omega) (by omega) hM
 generalize sb (aQ l)=T at HB HC;go_enter func7,ntmps7;go_wp2_with fail;refine(IG _).mono ?_;rintro e w1 ⟨⟨m1,rfl⟩,mm1⟩;have c1:=(HB.o.mod mm1 (fun x=>x)).aS 1 rfl;have lF:Hd (Mod No w (w1.alloc (.cells #[I 0,.string ⟨#[]⟩,.string ⟨#[]⟩,.string ⟨#[]⟩,.string ⟨#[]⟩,I 0] 42))):=mm1.alloc _;unfold noV;go_wp2_with fail;generalize w1.alloc (.cells #[I 0,.string ⟨#[]⟩,.string ⟨#[]⟩,.string ⟨#[]⟩,.string ⟨#[]⟩,I 0] 42)=w2 at *;refine(HC.o _).mono ?_;rintro e w3 ⟨⟨X,Y,Z1,Z2,c,rfl,-⟩,m3⟩;have HB3:=qH ((HB.o.mod lF.o (fun x=>x)).mod m3 (fun x=>x));have c0:=HB3.o.aS 0 rfl;have Aa:=qH (lF.o.no m3);rcases hk with ⟨rfl,hq1 | hq2⟩ | ⟨rfl | rfl,hq1,hq2⟩
 ·have hqi:(q:Int)<1:=by omega
  go_wp2_with fail;go_ret;exact⟨rfl,Aa.o.alloc _⟩
 ·have hqi:¬(q:Int)<1:=by omega
  have hqj:(4:Int)<(q:Int):=by omega
  go_wp2_with fail;go_ret;exact⟨rfl,Aa.o.alloc _⟩
 ·have hqi:¬(q:Int)<1:=by omega
  have hqj:¬(4:Int)<(q:Int):=by omega
  go_wp2_with fail;go_ret;exact⟨rfl,Aa.o.alloc _⟩
 ·have hqi:¬(q:Int)<1:=by omega
  have hqj:¬(4:Int)<(q:Int):=by omega
  go_wp2_with fail;go_ret;exact⟨rfl,Aa.o.alloc _⟩
theorem YK(w:World)(b R q lc:Nat)(nv wv:Value)(ps:List (Th.LR × Value))(l:List Th.LR)(hb:aG w b [Jn R q lc,.string (sb (aQ l)),nv,wv] 31)(hL:nZ w (Jn R q lc) ps)(hq:q=ps.length)(hps:ps.map Prod.fst=l)(hok:∀a∈l,a.Ok)(h1:1<=q)(h4:q<=4)(rs:List aI.Rule)(v:M2.View)(x:pY)(hr:aI.cZ 1000 (aQ l) 0 []=some (rs,0,0))(hrl:rs.length≠0)(hv:M3.view rs=some (some v))(hst:M3.states v 200=some none)(hf:M3.find v=some (some x))(hW:aBU l x):J1 7 #[Jx b 0] w fun e w'=>e=.returned (.bool true)∧Mod No w w':=by
 have HB:=qH hb;have hlen:(aQ l).length<=1048576:=by
  have:=mr l hok;have e:l.length=q:=by rw[<-hps,length_map,hq]
  omega
 have HC:Hd (∀wx,J1 11 #[.string (sb (aQ l)),I 200] wx fun e w'=>e=.returned (.tuple #[.pointer none,.agg #[I 0,.string (sb x.x),.string (sb x.y),.string (sb x.z1),.string (sb x.z2),I x.c],I 4])∧Mod No wx w'):=fun wx=>by
  refine(BR wx l hlen (limit:=200) (by omega) (by omega) (k:=4) (by omega) (Ud hr hrl hv hst hf)).mono ?_;rintro e w' ⟨⟨X,Y,Z1,Z2,c,he,hw⟩,hm⟩;obtain⟨rfl,rfl,rfl,rfl,rfl⟩:=hw rs v x hr hv hf;exact⟨he,hm⟩
 have HR:Hd (∀wx T,aG wx b [Jn R q lc,T,nv,wv] 31->Mod No w wx->J1 12 #[Jx b 0,.agg #[.string (sb x.x),.string (sb x.y),.string (sb x.z1),.string (sb x.z2),I x.c]] wx fun e w'=>e=.returned (.bool true)∧Mod No wx w'):=fun wx T hbx hm=>by
  refine QG wx b R lc T nv wv ps x (by rw[<-hq];exact hbx) (by rw[<-hq];exact hL.mod hm) (fun p hp=>hok _ (by rw[<-hps];exact mem_map_of_mem hp)) (by omega) (by omega) (by rw[hps];exact hW)
 generalize sb (aQ l)=T at HB HC;have hqi:¬(q:Int)<1:=by omega
 have hqj:¬(4:Int)<(q:Int):=by omega
 go_enter func7,ntmps7;go_wp2_with fail;refine(IG _).mono ?_;rintro e w1 ⟨⟨m1,rfl⟩,mm1⟩;have c1:=(HB.o.mod mm1 (fun x=>x)).aS 1 rfl;have lF:Hd (Mod No w (w1.alloc (.cells #[I 0,.string ⟨#[]⟩,.string ⟨#[]⟩,.string ⟨#[]⟩,.string ⟨#[]⟩,I 0] 42))):=mm1.alloc _;unfold noV;go_wp2_with fail;generalize w1.alloc (.cells #[I 0,.string ⟨#[]⟩,.string ⟨#[]⟩,.string ⟨#[]⟩,.string ⟨#[]⟩,I 0] 42)=w2 at *;refine(HC.o _).mono ?_;rintro e w3 ⟨rfl,m3⟩;have HB3:=qH ((HB.o.mod lF.o (fun x=>x)).mod m3 (fun x=>x));have c0:=HB3.o.aS 0 rfl;have Aa:Hd (Mod No w (w3.alloc (.cells #[I 0,.string (sb x.x),.string (sb x.y),.string (sb x.z1),.string (sb x.z2),I x.c] 42))):=(lF.o.no m3).alloc _;have HB4:Hd (aG (w3.alloc (.cells #[I 0,.string (sb x.x),.string (sb x.y),.string (sb x.z1),.string (sb x.z2),I x.c] 42)) b [Jn R q lc,.string T,nv,wv] 31):=HB3.o.alloc _;have hbx:=aG.new w3 [I 0,.string (sb x.x),.string (sb x.y),.string (sb x.z1),.string (sb x.z2),I x.c] 42;have x1:=hbx.cell 1 rfl;have x2:=hbx.cell 2 rfl;have x3:=hbx.cell 3 rfl;have x4:=hbx.cell 4 rfl;have x5:=hbx.cell 5 rfl;go_wp2_with fail;refine(HR.o _ _ HB4.o Aa.o).mono ?_;rintro e w5 ⟨rfl,m5⟩;have HM5:=qH (Aa.o.no m5);go_wp2_with fail;go_ret;exact⟨rfl,HM5.o⟩
end
end Go.Proofs.YtoebidlghdidoaaGreatDoor
