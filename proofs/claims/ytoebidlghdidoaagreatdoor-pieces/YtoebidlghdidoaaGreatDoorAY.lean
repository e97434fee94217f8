import Derived.Test.YtoebidlghdidoaaGreatDoorAX
set_option maxHeartbeats 1600000
set_option maxRecDepth 100000
namespace Go.Proofs.YtoebidlghdidoaaGreatDoor
open M3 M2 Tryz List
section
open Go.RowKit
attribute [local go_sem ↓] Go.wp_at_zero Go.wp_at_succ
variable {on ow R o:List Int} {steps:List M2.Stp} {f round i np:Nat} {far:List Nat} {w wr wr':World} {x:Int}
theorem Xj(h:Af on steps (f+1) round ow far=some R):∃Ie rY gr,bf on round steps 0 ow far false=some (Ie,rY,gr)∧((gr=true∧Af on steps f (round+1) Ie rY=some R)∨(gr=false∧Ie=R)):=by
 rw[Af]at h;split at h
 ·cases h
 ·rename_i Ie rY gr hr;refine⟨Ie,rY,gr,hr,?_⟩
  cases gr with
  | true=>exact Or.inl ⟨rfl,by simpa using h⟩
  | false=>exact Or.inr ⟨rfl,by simpa using h⟩
theorem Ls{s:M2.Stp}{gr:Bool}{R:List Int × List Nat × Bool}(hs:steps[i]?=some s)(h:bf on round (steps.drop i) i ow far gr=some R):∃o ft ff,on[s.tt]?=some o∧far[s.tt]?=some ft∧far[s.fr]?=some ff∧((ff=0∧((round=1∧M2.silent s=false∧0<=o)∨(1<round∧ft=round-1))∧bf on round (steps.drop (i+1)) (i+1) (ow.set s.fr (i:Int)) (far.set s.fr round) true=some R)∨(¬(ff=0∧((round=1∧M2.silent s=false∧0<=o)∨(1<round∧ft=round-1)))∧bf on round (steps.drop (i+1)) (i+1) ow far gr=some R)):=by
 obtain⟨h1,h2⟩:=bU hs;rw[kJ h1,h2,bf]at h;split at h
 ·rename_i o ft ff ho hft hff;refine⟨o,ft,ff,ho,hft,hff,?_⟩
  dsimp only at h
  split at h
  ·rename_i hc;refine Or.inl ?_;simp only[Bool.and_eq_true,Bool.or_eq_true,decide_eq_true_eq,Bool.not_eq_true']at hc;refine⟨hc.1,?_,h⟩;rcases hc.2 with h3 | h3
   ·exact Or.inl ⟨h3.1.1,h3.1.2,h3.2⟩
   ·exact Or.inr h3
  ·rename_i hc;refine Or.inr ⟨fun hn=>hc ?_,h⟩;simp only[Bool.and_eq_true,Bool.or_eq_true,decide_eq_true_eq,Bool.not_eq_true'];refine⟨hn.1,?_⟩;rcases hn.2 with h3 | h3
   ·exact Or.inl ⟨⟨h3.1,h3.2.1⟩,h3.2.2⟩
   ·exact Or.inr h3
 ·cases h
structure OT(w:World)(ow:List Int)(far:List Nat)(np:Nat)(wr:World):Prop where
 on:Row D5 wr (Jn w.heap.size np np) ow
 fa:Row dh wr (.slice (some ⟨w.heap.size+1,0,none⟩) np np) far
 md:Mod No w wr
theorem OT.no(h:OT w ow far np wr)(hm:Mod No wr wr'):OT w ow far np wr':=⟨h.on.no hm,h.fa.no hm,h.md.no hm⟩
theorem OT.aFD(h:OT w ow far np wr)(y:Int)(hx:ow[i]?=some x):OT w (ow.set i y) far np (wr.setCell (J w.heap.size i) (I y)):=⟨D5.put h.on y hx,h.fa.other (a:=J w.heap.size i) (by simp[Value.ownBlock]) _,h.md.setCell (a:=J w.heap.size i) (fun e=>absurd e (by simp)) _⟩
theorem OT.aGY(h:OT w ow far np wr){x:Nat}(y:Nat)(hx:far[i]?=some x):OT w ow (far.set i y) np (wr.setCell ⟨w.heap.size+1,i,none⟩ (I y)):=⟨h.on.other (a:=⟨w.heap.size+1,i,none⟩) (by simp[Value.ownBlock]) _,dh.put h.fa y hx,h.md.setCell (a:=⟨w.heap.size+1,i,none⟩) (fun e=>absurd e (by simp)) _⟩
theorem Xk(l:List Nat):l.flatMap dh.f=(l.map (fun(x:Nat)=>(x:Int))).flatMap D5.f:=by
 induction l with
 | nil=>rfl
 | cons a l ih=>rw[flatMap_cons,map_cons,flatMap_cons,ih];rfl
theorem dh.aFE{v:Value}{l:List Nat}(h:Row dh w v l):Row D5 w v (l.map fun(x:Nat)=>(x:Int)):=by
 have h2:w.ownsRow 0 3 1 v l.length (l.flatMap dh.f):=h;show w.ownsRow 0 3 1 v (l.map _).length _;rw[length_map,<-Xk];exact h2
theorem aAL(np i:Nat)(hi:i<np):(replicate i (-1:Int)++replicate (np-i) 0).set i (-1)=replicate (i+1) (-1)++replicate (np-(i+1)) 0:=by
 rw[set_append_right _ _ (by simp),length_replicate,Nat.sub_self,show np-i=(np-(i+1))+1 by omega,replicate_succ,set_cons_zero,replicate_succ',append_assoc];rfl
theorem Lu(w:World)(v:M2.View)(base G:Nat)(ka kw kh kd vp c5 vn vs c8 vo:Value)(g:M3.Gr)(h:NG v base G ka kw kh kd vp c5 vn vs c8 vo g.pairs g.nums g.steps w)(on:List Int)(hon:Row D5 w vo on)(hol:on.length=g.pairs.length)(hnp:g.pairs.length<=100000)(hns:g.steps.length<=1000000000)(hov:∀x∈on,-1<=x∧x<=10000000000)(hM:IX g.pairs.length g.steps on=some R):J1 129 #[Jx G 0] w fun e w'=>Mod No w w'∧∃u,e=.returned u∧Row D5 w' u R∧(∀q,u.ownBlock=some q->w.heap.size<=q):=by
 obtain⟨np,QT⟩:=eX g.pairs.length;obtain⟨ns,aCx⟩:=eX g.steps.length;obtain⟨pA,pC,BN,-,-⟩:=h.pr.open QT.symm;obtain⟨sA,sC,evs,-,-⟩:=h.sp.open aCx.symm;obtain⟨oA,oC,Xl,-,-⟩:=hon.open (n:=np) (by omega);rw[<-QT]at hM hnp hol;rw[<-aCx]at hns;have HB:=qH (a3 h.blk h.sp hon);have HE:=qH (a3 BN evs Xl);have HL:=qH (a2 aCx hol);have HM:Hd (Af on g.steps 10000 1 (replicate np (-1)) (replicate np 0)=some R):=hM;have HOV:=qH hov;have hmk:=iO np (by omega);have k4:=h.blk.cell 4 rfl;have K4:=h.blk.aS 4 rfl;rw[BN]at k4 K4;have aEd:¬G=w.heap.size:=by have:=h.blk.lt;omega
 clear h hon hM hol hov BN evs Xl QT aCx;go_enter func129,ntmps129;go_wp2_with fail;clear k4 K4 hmk;have HI0:Hd (∀A B,A=Obj.cells (Array.replicate np (I 0)) 3->B=Obj.cells (Array.replicate np (I 0)) 3->OT w (replicate 0 (-1)++replicate (np-0) 0) (replicate np 0) np ((w.alloc A).alloc B)):=by
  intro A B hA hB;subst hA hB;have e:((replicate np (I 0)).toArray:Array Value)=Array.replicate np (I 0):=by simp
  have b0:aG ((w.alloc (.cells (Array.replicate np (I 0)) 3)).alloc (.cells (Array.replicate np (I 0)) 3)) w.heap.size ((replicate np (0:Nat)).flatMap dh.f) 3:=by rw[jL];unfold aG;rw[e];exact gq w _ _
  have b1:aG ((w.alloc (.cells (Array.replicate np (I 0)) 3)).alloc (.cells (Array.replicate np (I 0)) 3)) (w.heap.size+1) ((replicate np (0:Nat)).flatMap dh.f) 3:=by rw[jL];unfold aG;rw[e];exact fE w _ _
  have r0:=Row.of_block (E:=dh) b0 (by simp;unfold maxLen;omega);have r1:=Row.of_block (E:=dh) b1 (by simp;unfold maxLen;omega);rw[length_replicate]at r0 r1;refine⟨?_,r1,((Mod.refl _ _).alloc _).alloc _⟩;have:=dh.aFE r0;simpa using this
 have HI1:=HI0.o _ _ rfl rfl;clear HI0;generalize (w.alloc (.cells (Array.replicate np (I 0)) 3)).alloc (.cells (Array.replicate np (I 0)) 3)=W0 at HI1 ⊢;have HI1:=qH HI1;go_loopg [26] np (fun gh v26 wr=>∃i:Nat,i<=np∧gh=np-i∧v26=I i∧OT w (replicate i (-1)++replicate (np-i) 0) (replicate np 0) np wr)
 case atStart=>exact⟨0,by omega,by omega,rfl,HI1.o⟩
 case round=>
  clear HI1;obtain⟨i,hin,hgk,rfl,hI⟩:=hrel;have HI:=qH hI;by_cases hlt:i<np
  ·have hx:(replicate i (-1:Int)++replicate (np-i) 0)[i]?=some 0:=by rw[mW (by simp),length_replicate,Nat.sub_self,getElem?_replicate,aP (by omega)]
   have cx:=D5.cell hI.on hx;have fx:=hI.on.free i;have HI2:Hd (OT w (replicate (i+1) (-1)++replicate (np-(i+1)) 0) (replicate np 0) np (wr.setCell (J w.heap.size i) (I (-1)))):=by
    have h:=hI.aFD (-1) hx;rw[aAL np i hlt]at h;exact h
   have hii:(i:Int)<np:=by omega
   clear hI hx;go_wp2;go_roundg (np-(i+1))
   case measure=>omega
   case rel=>exact⟨i+1,by omega,rfl,by go_num,HI2.o⟩
  ·obtain rfl:i=np:=by omega
   have HI2:Hd (OT w (replicate i (-1)) (replicate i 0) i wr):=by have h:=hI;simp at h;exact h
   have hii:¬(i:Int)<i:=by omega
   clear hI HI hgk hin hlt;go_wp2_with fail;go_loopg [6,7] 10001 (fun gh v6 v7 wr=>∃(b:Bool) (round:Nat) (ow:List Int) (far:List Nat),v6=.bool b∧v7=I round∧1<=round∧round+gh<=10002∧ow.length=i∧far.length=i∧(∀u∈far,u<=10002)∧OT w ow far i wr∧((b=true∧∃f,gh=f+1∧Af on g.steps f round ow far=some R)∨(b=false∧ow=R)))
   case atStart=>exact⟨true,1,_,_,rfl,rfl,by omega,by omega,by simp,by simp,fun u hu=>(by rw[eq_of_mem_replicate hu];omega),HI2.o,Or.inl ⟨rfl,10000,rfl,HM.o⟩⟩
   case round=>
    clear HI2 HM;obtain⟨b,round,ow,far,rfl,rfl,hr1,hrg,hol,hfl,hfv,hI,hb⟩:=hrel;have HI:=qH (a4 hI hol hfl hfv);rcases hb with ⟨rfl,f,hgf,hall⟩ | ⟨rfl,rfl⟩
    ·match f,hgf,hall with
     | 0,hgf,hall=>cases hall
     | f+1,hgf,hall=>
      obtain⟨Ie,rY,UE,hR,hend⟩:=Xj hall;have HR:Hd (bf on round (g.steps.drop 0) 0 ow far false=some (Ie,rY,UE)):=hR;have ny:=qH hend;have k7:=(HB.o.1.mod hI.md (fun x=>x)).cell 7 rfl;rw[HE.o.2.1]at k7;clear hI hall hR hend hol hfl hfv;go_wp2_with fail;clear k7;go_loopg [6,41] ns (fun gh v6 v41 wr=>∃(j:Nat) (gr:Bool) (ow:List Int) (far:List Nat),j<=ns∧gh=ns-j∧v41=I j∧v6=.bool gr∧bf on round (g.steps.drop j) j ow far gr=some (Ie,rY,UE)∧(OT w ow far i wr∧ow.length=i∧far.length=i∧∀u∈far,u<=10002))
      case atStart=>exact⟨0,false,ow,far,by omega,by omega,rfl,rfl,HR.o,HI.o⟩
      case round=>
       clear HI HR;obtain⟨j,gr,ow,far,hjn,hgj,rfl,rfl,hgo,hI⟩:=hrel;have HI:=qH hI;by_cases hlj:j<ns
       ·obtain⟨s,hs⟩:∃s,g.steps[j]?=some s:=⟨g.steps[j]'(by have:=HL.o.1;omega),bG _⟩;obtain⟨o,ft,ff,ho,hft,hff,hcase⟩:=Ls hs hgo;have hti:s.tt<i:=by have:=(bU hft).1;omega
        have hfi:s.fr<i:=by have:=(bU hff).1;omega
        have hob:=HOV.o o (iI ho);have aIa:=hI.2.2.2 ft (iI hft);have aIb:=hI.2.2.2 ff (iI hff);have hrs:=HB.o.2.1.no hI.1.md;rw[HE.o.2.1]at hrs;obtain⟨gS,hgS⟩:∃q,sA=some (J q 0):=by
         obtain⟨g2,c2,h2,-⟩:=HB.o.2.1.form (by have:=HL.o.1;omega);rw[HE.o.2.1]at h2;injection h2 with h2 _;exact⟨g2,h2⟩
        obtain⟨gO,hgO⟩:∃q,oA=some (J q 0):=by
         obtain⟨g2,c2,h2,-⟩:=HB.o.2.2.form (by have:=HL.o.2;omega);rw[HE.o.2.2]at h2;injection h2 with h2 _;exact⟨g2,h2⟩
        subst hgS hgO;have s0:wr.cell? (J gS (j*5))=some (I s.fr):=hrs.cell j 0 hs rfl;have s1:wr.cell? (J gS (j*5+1))=some (I s.tt):=hrs.cell j 1 hs rfl;have s2:wr.cell? (J gS (j*5+2))=some (I s.l):=hrs.cell j 2 hs rfl;have s3:wr.cell? (J gS (j*5+3))=some (.string ⟨s.s0.toArray⟩):=hrs.cell j 3 hs rfl;have s4:wr.cell? (J gS (j*5+4))=some (.string ⟨s.s1.toArray⟩):=hrs.cell j 4 hs rfl;have H96:=qH fun wx=>UD wx s
        generalize (⟨s.s0.toArray⟩:ByteArray)=A0 at s3 H96;generalize (⟨s.s1.toArray⟩:ByteArray)=A1 at s4 H96;have HC:=qH hcase;have HX:=qH (a3 ho hft hff);generalize M2.silent s=sil at HC H96;have hji:(j:Int)<ns:=by omega
        obtain⟨FR,hFR⟩:=eX s.fr;obtain⟨TT,IQ⟩:=eX s.tt;rw[<-hFR]at s0 H96 HC HX hfi;rw[<-IQ]at s1 H96 HX hti;have HP:Hd (∀o,o=Obj.cells #[I FR,I TT,I s.l,.string A0,.string A1] 225->(OT w ow far i (wr.alloc o)∧ow.length=i∧far.length=i∧∀u∈far,u<=10002)∧aG (wr.alloc o) wr.heap.size [I FR,I TT,I s.l,.string A0,.string A1] 225):=fun o ho=>⟨⟨hI.1.no ((Mod.refl _ _).alloc _),hI.2⟩,by subst ho;exact heap_alloc_new wr _⟩
        clear hI hrs hs hgo ho hft hff hcase hFR IQ HI;go_wp2_with fail;have HP:=HP.o _ rfl;generalize wr.alloc (.cells #[I FR,I TT,I s.l,.string A0,.string A1] 225)=W2 at HP ⊢;generalize wr.heap.size=P at HP ⊢;have HP:=qH HP;clear s0 s1 s2 s3 s4;have htt:(TT:Int)<i:=by omega
        have aIc:(FR:Int)<i:=by omega
        go_cut [10,41] from 41 to 98 (fun s10 s41 wc=>s41=I j∧s10=.bool (decide (round=1)&&(!sil)&&decide (0<=o))∧Mod No W2 wc)
        case first=>
         have hne:Nonempty (After W2):=⟨⟨W2,Mod.refl _ _⟩⟩;have p0:=fun(x:After W2)=>(HP.o.2.mod x.property (fun y=>y)).cell 0 rfl
         have p1:=fun(x:After W2)=>(HP.o.2.mod x.property (fun y=>y)).cell 1 rfl
         have p2:=fun(x:After W2)=>(HP.o.2.mod x.property (fun y=>y)).cell 2 rfl
         have p3:=fun(x:After W2)=>(HP.o.2.mod x.property (fun y=>y)).cell 3 rfl
         have p4:=fun(x:After W2)=>(HP.o.2.mod x.property (fun y=>y)).cell 4 rfl
         have g9:∀x:After W2,x.val.cell? (J G 9)=some (Jn gO i oC):=fun x=>by
          have h:=((HB.o.1.mod HP.o.1.1.md (fun y=>y)).mod x.property (fun y=>y)).cell 9 rfl;rw[HE.o.2.2]at h;exact h
         have co:∀x:After W2,x.val.cell? (J gO TT)=some (I o):=fun x=>by
          have h:=(HB.o.2.2.no HP.o.1.1.md).no x.property;rw[HE.o.2.2]at h;exact D5.cell h HX.o.1
         by_cases hr:round=1
         ·have hrb:((round:Int)==1)=true:=by rw[hr];rfl
          have HRR:=qH hr;clear hr
          cases sil with
          | true=>
           refine aIw (by kernel_rfl) (by kernel_rfl) ?_;repeat (go_big_quiet_step (exact Calls.calm (H96.o _)))
           refine wpQuiet_nil ?_;rintro _ ⟨X,rfl⟩;go_wp2_with fail;go_meet;exact⟨rfl,by simp,X.property⟩
          | false=>
           refine aIw (by kernel_rfl) (by kernel_rfl) ?_;repeat (go_big_quiet_step (exact Calls.calm (H96.o _)))
           refine wpQuiet_nil ?_;rintro _ ⟨X,rfl⟩;go_wp2_with fail;go_meet;exact⟨rfl,by simp[HRR.o],X.property⟩
         ·have hrb:((round:Int)==1)=false:=by rw[beq_eq_false_iff_ne];omega
          refine aIw (by kernel_rfl) (by kernel_rfl) ?_;repeat (go_big_quiet_step (exact Calls.calm (H96.o _)))
          refine wpQuiet_nil ?_;rintro _ ⟨X,rfl⟩;go_wp2_with fail;go_meet;exact⟨rfl,by simp[hr],X.property⟩
        case rest=>
         obtain⟨rfl,rfl,mc⟩:=hcut;have HP2:Hd ((OT w ow far i wc∧ow.length=i∧far.length=i∧∀u∈far,u<=10002)∧aG wc P [I FR,I TT,I s.l,.string A0,.string A1] 225):=⟨⟨HP.o.1.1.no mc,HP.o.1.2⟩,HP.o.2.mod mc (fun x=>x)⟩;obtain⟨T,hT⟩:=eX (decide (round=1)&&(!sil)&&decide (0<=o));rw[<-hT];have Xm:Hd (T=true↔(round=1∧sil=false∧0<=o)):=qH <| by
          rw[hT];simp[and_assoc]
         have p0:=HP2.o.2.cell 0 rfl;have p1:=HP2.o.2.cell 1 rfl;have cT:=dh.cell HP2.o.1.1.fa HX.o.2.1;have cF:=dh.cell HP2.o.1.1.fa HX.o.2.2;have fF:=HP2.o.1.1.fa.free FR;obtain⟨ox,hox⟩:∃ox,ow[FR]?=some ox:=⟨ow[FR]'(by rw[HP2.o.1.2.1];exact hfi),bG _⟩;have HOX:=qH hox;have hF2:=HP2.o.1.1.aGY round HX.o.2.2;have cO:=D5.cell hF2.on hox;have fO:=hF2.on.free FR;have P5:=qH (hF2.aFD (j:Int) hox);have HFV:Hd (∀u∈far.set FR round,u<=10002):=fun u hu=>by
          rcases mem_or_eq_of_mem_set hu with h | h
          ·exact HP2.o.1.2.2.2 u h
          ·omega
         have p0':(wc.setCell ⟨w.heap.size+1,FR,none⟩ (I round)).cell? (J P 0)=some (I FR):=(HP2.o.2.other (a:=⟨w.heap.size+1,FR,none⟩) (fun e=>HP2.o.2.apart HP2.o.1.1.fa (by decide) (by rw[e];rfl)) _).cell 0 rfl;clear hT mc HP H96 hF2 hox hob;have hr0:(1:Int)<=(round:Int):=by omega
         have hrr:round<=10002:=by omega
         rcases(show (¬1<round)∨(1<round∧ft=round-1)∨(1<round∧ft≠round-1) by omega)with hnb | hnb | hnb;all_goals
          first
           | have n1:¬(1:Int)<(round:Int):=by omega
           | have n1:(1:Int)<(round:Int):=by omega
          first
           | have n2:((ft:Int)==(round:Int)-1)=true:=by rw[beq_iff_eq];omega
           | have n2:((ft:Int)==(round:Int)-1)=false:=by rw[beq_eq_false_iff_ne];omega
           | skip
          rcases(show ff=0∨ff≠0 by omega)with hfb | hfb;all_goals
           first
            | have f1:((ff:Int)==0)=true:=by rw[beq_iff_eq];omega
            | have f1:((ff:Int)==0)=false:=by rw[beq_eq_false_iff_ne];omega
           cases T;all_goals
            rcases HC.o with h | h
            ·first
              | exact absurd h.1 hfb
              | exact(h.2.1.elim (fun h3=>Bool.false_ne_true (Xm.o.2 h3)) (fun h3=>absurd h3 (by omega)):False).elim
              | (have HN:=qH h.2.2;clear hnb hfb h;go_wp2;go_roundg (ns-(j+1));(case measure=>omega);exact⟨j+1,true,_,_,by omega,rfl,by go_num,rfl,HN.o,P5.o,by rw[length_set];exact HP2.o.1.2.1,by rw[length_set];exact HP2.o.1.2.2.1,HFV.o⟩)
            ·first
              | exact absurd (And.intro hfb (Or.inl (Xm.o.1 rfl))) h.1
              | exact absurd (And.intro hfb (Or.inr hnb)) h.1
              | (have HN:=qH h.2;clear hnb hfb h;go_wp2;go_roundg (ns-(j+1));(case measure=>omega);exact⟨j+1,gr,_,_,by omega,rfl,by go_num,rfl,HN.o,HP2.o.1⟩)
       ·obtain rfl:j=ns:=by omega
        have e1:g.steps.drop j=[]:=drop_of_length_le (by have:=HL.o.1;omega);rw[e1,bf]at hgo;have HG:Hd (ow=Ie∧far=rY∧gr=UE):=by
         have h:=hgo;cases h;exact⟨rfl,rfl,rfl⟩
        have hjj:¬(j:Int)<j:=by omega
        clear hI hgo e1 hgj hjn hlj;go_wp2;go_roundg (f+1)
        case measure=>omega
        case rel=>
         refine⟨UE,round+1,Ie,rY,by rw[HG.o.2.2],by go_num,by omega,by omega,by rw[<-HG.o.1];exact HI.o.2.1,by rw[<-HG.o.2.1];exact HI.o.2.2.1,by rw[<-HG.o.2.1];exact HI.o.2.2.2,by rw[<-HG.o.1,<-HG.o.2.1];exact HI.o.1,?_⟩;rcases ny.o with ⟨h1,h2⟩ | h
         ·exact Or.inl ⟨h1,f,rfl,h2⟩
         ·exact Or.inr h
    ·clear hI;go_wp2;go_ret;exact⟨HI.o.1.md,_,rfl,HI.o.1.on,fun q hq=>by cases hq;exact dH _⟩
def bI:Option Nat->Int
 | none=>-1
 | some b=>(b:Int)
theorem aFF(b:Option Nat)(c:Nat):(((c:Int) != bI b)=true↔¬b=some c):=by
 cases b with
 | none=>simp[bI]
 | some b=>simp[bI];omega
theorem Dc(h:Qz np o=true):o.length=np∧∀x∈o,-1<=x∧x<=10000000000:=by
 unfold Qz at h;simp only[Bool.and_eq_true,decide_eq_true_eq,all_eq_true]at h;exact h
theorem QU{count:Nat}{before:Option Nat}(h:jB np steps (f+1) before count on=some R):(before=some count∧on=R)∨(¬before=some count∧∃o,IX np steps on=some o∧Qz np o=true∧jB np steps f (some count) (bM o) o=some R):=by
 rw[jB]at h;split at h
 ·rename_i he;exact Or.inl ⟨he,dY h⟩
 ·rename_i he;split at h
  ·cases h
  ·rename_i o ho;split at h
   ·rename_i hk;exact Or.inr ⟨he,o,ho,hk,h⟩
   ·cases h
theorem yS:∀o:List Int,bM o<=o.length
 | []=>by simp[bM]
 | x::xs=>by
  rw[bM];have:=yS xs;split <;> simp <;> omega
theorem MC(hx:o[i]?=some x):bM (o.take (i+1))=bM (o.take i)+if 0<=x then 1 else 0:=by
 induction o generalizing i with
 | nil=>simp at hx
 | cons a o ih=>
  cases i with
  | zero=>simp at hx;subst hx;simp[bM]
  | succ i=>
   simp at hx;rw[take_succ_cons,take_succ_cons,bM,bM,ih hx];omega
section
variable {v:M2.View} {base G:Nat} {ka kw kh kd vp c5 vn vs c8 c9:Value} {pairs:List M2.Pair} {nums:List Nat} {steps:List M2.Stp} {w w':World}
theorem NG.aFG(h:NG v base G ka kw kh kd vp c5 vn vs c8 c9 pairs nums steps w)(u:Value):NG v base G ka kw kh kd vp c5 vn vs c8 u pairs nums steps (w.setCell (J G 9) u):=by
 have hm2:Mod (fun k=>k=G) w (w.setCell (J G 9) u):=(Mod.refl (fun k=>k=G) _).setCell (a:=J G 9) (fun _=>rfl) _;have hs2:=Safe.one h.blk;exact⟨h.blk.set 9 u,h.vw.far hm2 hs2 (by decide) (by decide),h.pr.safe hm2 hs2 (by decide) (by decide),h.nu.safe hm2 hs2 (by decide) (by decide),h.sp.safe hm2 hs2 (by decide) (by decide)⟩
theorem NG.aGZ(h:NG v base G ka kw kh kd vp c5 vn vs c8 c9 pairs nums steps w)(u:Value):NG v base G ka kw kh kd vp c5 vn vs u c9 pairs nums steps (w.setCell (J G 8) u):=by
 have hm2:Mod (fun k=>k=G) w (w.setCell (J G 8) u):=(Mod.refl (fun k=>k=G) _).setCell (a:=J G 8) (fun _=>rfl) _;have hs2:=Safe.one h.blk;exact⟨h.blk.set 8 u,h.vw.far hm2 hs2 (by decide) (by decide),h.pr.safe hm2 hs2 (by decide) (by decide),h.nu.safe hm2 hs2 (by decide) (by decide),h.sp.safe hm2 hs2 (by decide) (by decide)⟩
theorem NG.aEi(h:NG v base G ka kw kh kd vp c5 vn vs c8 c9 pairs nums steps w)(u:Value):NG v base G ka kw kh kd vp u vn vs c8 c9 pairs nums steps (w.setCell (J G 5) u):=by
 have hm2:Mod (fun k=>k=G) w (w.setCell (J G 5) u):=(Mod.refl (fun k=>k=G) _).setCell (a:=J G 5) (fun _=>rfl) _;have hs2:=Safe.one h.blk;exact⟨h.blk.set 5 u,h.vw.far hm2 hs2 (by decide) (by decide),h.pr.safe hm2 hs2 (by decide) (by decide),h.nu.safe hm2 hs2 (by decide) (by decide),h.sp.safe hm2 hs2 (by decide) (by decide)⟩
end
structure FO(w:World)(v:M2.View)(base G:Nat)(ka kw kh kd vp c5 vn vs c8 vo:Value)(g:M3.Gr)(on:List Int)(wr:World):Prop where
 ng:NG v base G ka kw kh kd vp c5 vn vs c8 vo g.pairs g.nums g.steps wr
 on:Row D5 wr vo on
 md:Mod (fun k=>k=G) w wr
 fo:∀q,vo.ownBlock=some q->w.heap.size<=q
theorem FO.no{v:M2.View}{base G:Nat}{ka kw kh kd vp c5 vn vs c8 vo:Value}{g:M3.Gr}(h:FO w v base G ka kw kh kd vp c5 vn vs c8 vo g on wr)(hm:Mod No wr wr'):FO w v base G ka kw kh kd vp c5 vn vs c8 vo g on wr':=⟨h.ng.no hm,h.on.no hm,h.md.no hm,h.fo⟩
theorem Gz(w:World)(v:M2.View)(base G:Nat)(ka kw kh kd vp c5 vn vs c8:Value)(g:M3.Gr)(h:NG v base G ka kw kh kd vp c5 vn vs c8 aH g.pairs g.nums g.steps w)(hnp:g.pairs.length<=100000)(hns:g.steps.length<=1000000000)(hM:jB g.pairs.length g.steps 10000 none g.pairs.length (replicate g.pairs.length 0)=some R):J1 99 #[Jx G 0] w fun e w'=>e=.returned (.tuple #[])∧∃vo,FO w v base G ka kw kh kd vp c5 vn vs c8 vo g R w':=by
 obtain⟨np,QT⟩:=eX g.pairs.length;obtain⟨pA,pC,BN,-,-⟩:=h.pr.open QT.symm;have H79:=qH fun(wx:World) (vo:Value) (on:List Int) (R2:List Int) (hF:FO w v base G ka kw kh kd vp c5 vn vs c8 vo g on wx) (hl:on.length=np) (hv:(∀x∈on,-1<=x∧x<=10000000000)) (hM:IX np g.steps on=some R2)=>Lu wx v base G ka kw kh kd vp c5 vn vs c8 vo g hF.ng on hF.on (by omega) hnp hns hv (by rw[<-QT];exact hM)
 rw[<-QT]at hM hnp;have HM:=qH hM;have HE:=qH BN;have hmk:=iO np (by omega);have k4:=h.blk.cell 4 rfl;have K4:=h.blk.aS 4 rfl;rw[BN]at k4 K4;have K9:=h.blk.aS 9 rfl;have F9:=h.blk.dQ 9;have aEd:¬G=w.heap.size:=by have:=h.blk.lt;omega
 have HI0:Hd (∀A,A=Obj.cells (Array.replicate np (I 0)) 3->FO w v base G ka kw kh kd vp c5 vn vs c8 (Jn w.heap.size np np) g (replicate np 0) ((w.alloc A).setCell (J G 9) (Jn w.heap.size np np))):=by
  intro A hA;subst hA;have e:((replicate np (I 0)).toArray:Array Value)=Array.replicate np (I 0):=by simp
  have b0:aG (w.alloc (.cells (Array.replicate np (I 0)) 3)) w.heap.size ((replicate np (0:Nat)).flatMap dh.f) 3:=by rw[jL];unfold aG;rw[e];exact heap_alloc_new w _
  have r0:=Row.of_block (E:=dh) b0 (by simp;unfold maxLen;omega);rw[length_replicate]at r0;have r1:=dh.aFE r0;have hm:Mod No w (w.alloc (.cells (Array.replicate np (I 0)) 3)):=(Mod.refl _ _).alloc _;have h1:=h.no hm;refine⟨h1.aFG _,?_,?_,fun q hq=>by cases hq;exact dH _⟩
  ·have r2:Row D5 (w.alloc (.cells (Array.replicate np (I 0)) 3)) (Jn w.heap.size np np) (replicate np 0):=by simpa using r1
   exact r2.other (a:=J G 9) (h1.blk.apart r2 (by decide)) _
  ·exact((Mod.refl (fun k=>k=G) w).alloc _).setCell (a:=J G 9) (fun _=>rfl) _
 clear h hM BN QT hns;go_enter func99,ntmps99;go_wp2_with fail;have HI1:Hd (FO w v base G ka kw kh kd vp c5 vn vs c8 (Jn w.heap.size np np) g (replicate np 0) _):=HI0.o _ rfl;generalize (w.alloc (.cells (Array.replicate np (I 0)) 3)).setCell (J G 9) (Jn w.heap.size np np)=W0 at HI1 ⊢;go_loopg [2,3] 10000 (fun gh v2 v3 wr=>∃(before:Option Nat) (count:Nat) (on:List Int) (vo:Value),v2=I (bI before)∧v3=I count∧count<=100000∧on.length=np∧(∀x∈on,-1<=x∧x<=10000000000)∧jB np g.steps gh before count on=some R∧FO w v base G ka kw kh kd vp c5 vn vs c8 vo g on wr)
 case atStart=>exact⟨none,np,_,_,rfl,rfl,hnp,by simp,fun x hx=>(by rw[eq_of_mem_replicate hx];omega),HM.o,HI1.o⟩
 case round=>
  obtain⟨before,count,on,vo,rfl,rfl,hcb,hol,hov,hgo,hI⟩:=hrel;have HI:=qH hI
  match gk,hgo with
  | 0,hgo=>cases hgo
  | f+1,hgo=>
   rcases QU hgo with ⟨he,rfl⟩ | ⟨he,o,hto,hok,hnext⟩
   ·have hb:bI before=(count:Int):=by rw[he];rfl
    have HVO:=qH hI;rw[hb];go_wp2;go_end0;exact⟨rfl,vo,HVO.o⟩
   ·have hne:=(aFF before count).2 he;have hne2:((count:Int)==bI before)=false:=by
     rw[bne,Bool.not_eq_true']at hne;exact hne
    generalize bI before=B0 at hne hne2;have h79:=H79.o wr vo on o hI hol hov hto;have hoo:=Dc hok;have pV:=qH hnext;have HOO:=qH hoo;go_wp2_with fail;refine h79.mono ?_;rintro e w2 ⟨m2,u,rfl,hu,fu⟩;have h2:=HI.o.no m2;obtain⟨uA,uC,eu,-,-⟩:=hu.open HOO.o.1;have aFH:FO w v base G ka kw kh kd vp c5 vn vs c8 u g o (w2.setCell (J G 9) u):=⟨h2.ng.aFG u,hu.other (a:=J G 9) (h2.ng.blk.apart hu (by decide)) _,h2.md.setCell (a:=J G 9) (fun _=>rfl) _,fun q hq=>by have:=fu q hq;have:=HI.o.md.size;omega⟩;have HI2:=qH aFH;have HU:=qH eu;have d9:=h2.ng.blk.cell 9 rfl;have f9:=h2.ng.blk.free 9;rw[eu];rw[eu]at HI2;go_wp2_with fail;generalize w2.setCell (J G 9) (.slice uA np uC)=W3 at HI2 ⊢;go_loopg [3,34] np (fun gh v3 v34 wr=>∃i:Nat,i<=np∧gh=np-i∧v34=I i∧v3=I (bM (o.take i):Int)∧FO w v base G ka kw kh kd vp c5 vn vs c8 (.slice uA np uC) g o wr)
    case atStart=>exact⟨0,by omega,by omega,rfl,rfl,HI2.o⟩
    case round=>
     obtain⟨i,hin,hgi,rfl,rfl,hI⟩:=hrel;have HI:=qH hI;by_cases hlt:i<np
     ·obtain⟨x,hx⟩:∃x,o[i]?=some x:=⟨o[i]'(by rw[HOO.o.1];exact hlt),bG _⟩;obtain⟨gu,hgu⟩:∃q,uA=some (J q 0):=by
       obtain⟨g2,c2,h2,-⟩:=hI.on.form (by rw[HOO.o.1];omega);injection h2 with h2 _;exact⟨g2,h2⟩
      subst hgu;have cx:=D5.cell hI.on hx;have hct:=MC hx;have hcl:=yS (o.take i);rw[length_take]at hcl;have hxb:=HOO.o.2 x (iI hx);have hii:(i:Int)<np:=by omega
      generalize bM (o.take i)=C at hct hcl ⊢;by_cases h0:0<=x
      ·rw[aP h0]at hct;have HCT:=qH hct;go_wp2;go_roundg (np-(i+1))
       case measure=>omega
       case rel=>exact⟨i+1,by omega,rfl,by go_num,by rw[HCT.o];go_num,HI.o⟩
      ·rw[aU h0]at hct;have HCT:Hd (bM (o.take (i+1))=C):=hct;go_wp2;go_roundg (np-(i+1))
       case measure=>omega
       case rel=>exact⟨i+1,by omega,rfl,by go_num,by rw[HCT.o],HI.o⟩
     ·obtain rfl:i=np:=by omega
      have Y8:=qH (take_of_length_le (by rw[HOO.o.1];omega));have HCL:Hd (bM o<=i):=by have:=yS o;rw[HOO.o.1]at this;exact this
      have hii:¬(i:Int)<i:=by omega
      go_wp2;go_roundg f
      case measure=>omega
      case rel=>exact⟨some count,bM o,o,_,rfl,by rw[Y8.o],by have:=HCL.o;omega,HOO.o.1,HOO.o.2,pV.o,HI.o⟩
end
section
open Go.RowKit
variable {n x c:Nat} {g R:M3.Gr} {v:M2.View} {Dl:Value}
theorem UF{y:Nat}(h:lH n x (c+1) y g=some R):g.pairs.length<=50000∧∃k ps ns,oZ n g.pairs g.nums ⟨x,0,y,0⟩=some (k,ps,ns)∧lH n x c (y+1) ⟨ps,ns,g.steps⟩=some R:=by
 rw[lH]at h;split at h
 ·rename_i hl;split at h
  ·cases h
  ·rename_i k ps ns hg;exact⟨hl,k,ps,ns,hg,h⟩
 ·cases h
theorem UG(h:kS n (c+1) x g=some R):∃g2,lH n x (n-(x+1)) (x+1) g=some g2∧kS n c (x+1) g2=some R:=by
 rw[kS]at h;split at h
 ·cases h
 ·rename_i g2 hg;exact⟨g2,hg,h⟩
theorem UH{fr:Nat}(h:kT v fr (c+1) g=some R):∃g2,M3.lead v fr (3-c) g=some g2∧kT v fr c g2=some R:=by
 rw[kT]at h;split at h
 ·cases h
 ·rename_i g2 hg;exact⟨g2,hg,h⟩
theorem grow_step{f i:Nat}{first:List Nat}{R:M3.Gr × List Nat}(h:M3.grow v (f+1) i g first=some R):(g.pairs.length<=i∧R=(g,first))∨(¬g.pairs.length<=i∧g.steps.length<=1000000000∧∃g2,kT v i 4 g=some g2∧M3.grow v f (i+1) g2 (first++[g.steps.length])=some R):=by
 rw[M3.grow]at h;split at h
 ·rename_i hc;exact Or.inl ⟨hc,(dY h).symm⟩
 ·rename_i hc;split at h
  ·rename_i hs;split at h
   ·cases h
   ·rename_i g2 hg;exact Or.inr ⟨hc,hs,g2,hg,h⟩
  ·cases h
theorem aJz{R:M3.GG}(h:M3.graph v=some R):∃g g2 first on,kS v.k.ahead.length v.k.ahead.length 0 ⟨[],replicate ((v.k.ahead.length*4)*(v.k.ahead.length*4)) 0,[]⟩=some g∧M3.grow v 10000 0 g []=some (g2,first)∧g2.pairs.length<=100000∧g2.steps.length<=1000000000∧jB g2.pairs.length g2.steps 10000 none g2.pairs.length (replicate g2.pairs.length 0)=some on∧R=⟨g2,g.pairs.length,first++[g2.steps.length],on⟩:=by
 unfold M3.graph at h;split at h
 ·cases h
 ·rename_i g hg;split at h
  ·cases h
  ·rename_i g2 first hg2;split at h
   ·rename_i hc;split at h
    ·cases h
    ·rename_i on hon;exact⟨g,g2,first,on,hg,hg2,hc.1,hc.2,hon,(dY h).symm⟩
   ·cases h
structure PG(w:World)(v:M2.View)(base G:Nat)(ka kw kh kd vp c5 vn vs vf c9:Value)(g:M3.Gr)(first:List Nat)(wr:World):Prop where
 ng:NG v base G ka kw kh kd vp c5 vn vs vf c9 g.pairs g.nums g.steps wr
 fi:Row dh wr vf first
 md:Mod No w wr
 fp:∀q,vp.ownBlock=some q->w.heap.size<=q
 fs:∀q,vs.ownBlock=some q->w.heap.size<=q
 ff:∀q,vf.ownBlock=some q->w.heap.size<=q
 fn:∀q,vn.ownBlock=some q->w.heap.size<=q
 nf:∀q,vf.ownBlock=some q->vn.ownBlock≠some q
 ok:GOk v.k.ahead.length g
 oG:w.heap.size<=G
section
variable {w:World} {v:M2.View} {base G:Nat} {ka kw kh kd vp c5 vn vs vf c9:Value} {g:M3.Gr} {first:List Nat} {wr wr':World}
theorem PG.no(h:PG w v base G ka kw kh kd vp c5 vn vs vf c9 g first wr)(hm:Mod No wr wr'):PG w v base G ka kw kh kd vp c5 vn vs vf c9 g first wr':=⟨h.ng.no hm,h.fi.no hm,h.md.no hm,h.fp,h.fs,h.ff,h.fn,h.nf,h.ok,h.oG⟩
theorem PG.num{ps:List M2.Pair}{ns:List Nat}{p:M2.Pair}{k:Nat}(h:PG w v base G ka kw kh kd vp c5 vn vs vf c9 g first wr)(hg:oZ v.k.ahead.length g.pairs g.nums p=some (k,ps,ns))(hn:NG v base G ka kw kh kd Dl c5 vn vs vf c9 ps ns g.steps wr')(hf:aN wr vp Dl)(hm:Mod (Nu G vp vn) wr wr'):PG w v base G ka kw kh kd Dl c5 vn vs vf c9 ⟨ps,ns,g.steps⟩ first wr':=by
 have hok:=yt h.ok.nl h.ok.nv hg;have hsz:=h.md.size;refine⟨hn,h.fi.mod hm (fun q hq e=>?_),h.md.trans' hm (fun q hq e=>?_),fun q hq=>?_,h.fs,h.ff,h.fn,h.nf,⟨hok.1,hok.2.1⟩,h.oG⟩
 ·rcases e with e | e | e
  ·exact h.ng.blk.apart h.fi (by decide) (by rw[hq,e])
  ·exact h.fi.apart h.ng.pr (by decide) hq e
  ·exact h.nf q hq e
 ·rcases e with e | e | e
  ·have:=h.oG;omega
  ·have:=h.fp q e;omega
  ·have:=h.fn q e;omega
 ·rcases hf q hq with e | e
  ·exact h.fp q e
  ·omega
theorem PG.lead{vs':Value}{g':M3.Gr}(h:PG w v base G ka kw kh kd vp c5 vn vs vf c9 g first wr)(hl:LG wr v base G ka kw kh kd vp c5 vn vs vf c9 Dl vs' g' wr'):PG w v base G ka kw kh kd Dl c5 vn vs' vf c9 g' first wr':=by
 have hsz:=h.md.size;refine⟨hl.ng,h.fi.mod hl.md (fun q hq e=>?_),h.md.trans' hl.md (fun q hq e=>?_),fun q hq=>?_,fun q hq=>?_,h.ff,h.fn,h.nf,hl.ok,h.oG⟩
 ·rcases e with e | e | e | e
  ·exact h.ng.blk.apart h.fi (by decide) (by rw[hq,e])
  ·exact h.fi.apart h.ng.pr (by decide) hq e
  ·exact h.nf q hq e
  ·exact h.fi.apart h.ng.sp (by decide) hq e
 ·rcases e with e | e | e | e
  ·have:=h.oG;omega
  ·have:=h.fp q e;omega
  ·have:=h.fn q e;omega
  ·have:=h.fs q e;omega
 ·rcases hl.fp q hq with e | e
  ·exact h.fp q e
  ·omega
 ·rcases hl.fs q hq with e | e
  ·exact h.fs q e
  ·omega
theorem PG.more{v2:Value}{f2:List Nat}(h:PG w v base G ka kw kh kd vp c5 vn vs vf c9 g first wr)(hg:wr.grownBy wr' vf.ownBlock)(hrow:Row dh wr' v2 f2)(hf:aN wr vf v2):PG w v base G ka kw kh kd vp c5 vn vs v2 c9 g f2 (wr'.setCell (J G 8) v2):=by
 have hsz:=h.md.size;have hm:=rX hg;have hs:Safe (fun k=>vf.ownBlock=some k) wr 3 3:=Safe.row h.fi;have hN:NG v base G ka kw kh kd vp c5 vn vs vf c9 g.pairs g.nums g.steps wr':=⟨h.ng.blk.safe hm hs (by decide) (by decide),h.ng.vw.far hm hs (by decide) (by decide),h.ng.pr.safe hm hs (by decide) (by decide),h.ng.nu.mod hm (fun q hq e=>h.nf q e hq),h.ng.sp.safe hm hs (by decide) (by decide)⟩;have hmd:=h.md.trans' hm (fun q hq e=>by have:=h.ff q e;omega);refine⟨hN.aGZ v2,hrow.other (a:=J G 8) (hN.blk.apart hrow (by decide)) _,hmd.setCell (a:=J G 8) (fun e=>absurd e (by have:=h.oG;show ¬G<w.heap.size;omega)) _,h.fp,h.fs,fun q hq=>?_,h.fn,fun q hq e=>?_,h.ok,h.oG⟩
 ·rcases hf q hq with e | e
  ·exact h.ff q e
  ·omega
 ·rcases hf q hq with e2 | e2
  ·exact h.nf q e2 e
  ·have:=h.ng.nu.lt e;omega
theorem PG.aEi(h:PG w v base G ka kw kh kd vp c5 vn vs vf c9 g first wr)(u:Value):PG w v base G ka kw kh kd vp u vn vs vf c9 g first (wr.setCell (J G 5) u):=⟨h.ng.aEi u,h.fi.other (a:=J G 5) (h.ng.blk.apart h.fi (by decide)) _,h.md.setCell (a:=J G 5) (fun e=>absurd e (by have:=h.oG;show ¬G<w.heap.size;omega)) _,h.fp,h.fs,h.ff,h.fn,h.nf,h.ok,h.oG⟩
end
def aCZ(R:M3.GG)(v:M2.View)(base:Nat)(ka kw kh kd:Value)(w:World)(e:Ending)(w':World):Prop:=Mod No w w'∧∃vp vn vs vf vo,e=.returned (.agg #[ka,kw,kh,kd,vp,I R.st,vn,vs,vf,vo])∧VP v base ka kw kh kd w'∧Row PaE w' vp R.g.pairs∧I9 vn∧Row SpE w' vs R.g.steps∧Row dh w' vf R.first∧Row D5 w' vo R.on
end
section
open Go.RowKit
attribute [local go_sem ↓] Go.wp_at_zero Go.wp_at_succ
variable {NN:Nat} {W1:World} {ka kw kh kd:Value}
theorem aG.MF{w b cs T}(h:aG w b cs T)(j:Nat){v:Value}(hv:cs[j]?=some v)(o o2:Obj):((w.alloc o).alloc o2).cell? (J b j)=some v:=(h.alloc o).aS j hv o2
def aEj(W1:World)(NN:Nat)(ka kw kh kd:Value)(G NU:Nat)(wc:World):Prop:=aG wc G [ka,kw,kh,kd,aH,I 0,Jn NU NN NN,aH,aH,aH] 168∧Row dh wc (Jn NU NN NN) (replicate NN 0)∧Mod No W1 wc∧W1.heap.size<=G∧W1.heap.size<=NU
theorem row_zero{w:World}{q:Nat}(hN:NN<=9216)(h:w.heap[q]?=some (Obj.cells (Array.replicate NN (I 0)) 3)):Row dh w (Jn q NN NN) (replicate NN 0):=by
 have e:((replicate NN (I 0)).toArray:Array Value)=Array.replicate NN (I 0):=by simp
 have b0:aG w q ((replicate NN (0:Nat)).flatMap dh.f) 3:=by rw[jL];unfold aG;rw[e];exact h
 have r0:=Row.of_block (E:=dh) b0 (by simp;unfold maxLen;omega);rw[length_replicate]at r0;exact r0
theorem aEk(hN:NN<=9216):aEj W1 NN ka kw kh kd (W1.heap.size+1) W1.heap.size ((W1.alloc (.cells (Array.replicate NN (I 0)) 3)).alloc (.cells #[ka,kw,kh,kd,aH,I 0,Jn W1.heap.size NN NN,aH,aH,aH] 168)).drew:=by
 refine⟨?_,?_,(((Mod.refl _ _).alloc _).alloc _).drew,by omega,dH _⟩
 ·have:=aG.new (W1.alloc (.cells (Array.replicate NN (I 0)) 3)) [ka,kw,kh,kd,aH,I 0,Jn W1.heap.size NN NN,aH,aH,aH] 168;have e:(W1.alloc (.cells (Array.replicate NN (I 0)) 3)).heap.size=W1.heap.size+1:=by simp
  rw[e]at this;exact this
 ·exact((row_zero hN (heap_alloc_new W1 _)).alloc _).drew
theorem aEl(hN:NN<=9216):aEj W1 NN ka kw kh kd W1.heap.size (W1.heap.size+1) ((W1.alloc (.cells #[ka,kw,kh,kd,aH,I 0,.slice (some ⟨W1.heap.size+1,0,none⟩) NN NN,aH,aH,aH] 168)).alloc (.cells (Array.replicate NN (I 0)) 3)).drew:=by
 refine⟨?_,?_,(((Mod.refl _ _).alloc _).alloc _).drew,dH _,by omega⟩
 ·exact((aG.new W1 [ka,kw,kh,kd,aH,I 0,.slice (some ⟨W1.heap.size+1,0,none⟩) NN NN,aH,aH,aH] 168).alloc _).drew
 ·have:=heap_alloc_new (W1.alloc (.cells #[ka,kw,kh,kd,aH,I 0,.slice (some ⟨W1.heap.size+1,0,none⟩) NN NN,aH,aH,aH] 168)) (Obj.cells (Array.replicate NN (I 0)) 3);have e:(W1.alloc (.cells #[ka,kw,kh,kd,aH,I 0,.slice (some ⟨W1.heap.size+1,0,none⟩) NN NN,aH,aH,aH] 168)).heap.size=W1.heap.size+1:=by simp
  rw[e]at this;exact(row_zero hN this).drew
theorem MG(w:World)(v:M2.View)(base:Nat)(ka kw kh kd:Value)(hv:VP v base ka kw kh kd w){R:M3.GG}(hM:M3.graph v=some R):J1 62 #[.agg #[ka,kw,kh,kd]] w fun e w'=>aCZ R v base ka kw kh kd w e w':=by
 obtain⟨gA,gB,first,on,hpx,hgr,hpl,hsl,hon,hR⟩:=aJz hM;obtain⟨n,hn⟩:=eX v.k.ahead.length;have aIU:n<=24:=by rw[hn];exact hv.n24
 obtain⟨a1,c1,e1,-,-⟩:=hv.ah.open hn.symm;obtain⟨a2,n2,c2,e2⟩:=hv.wo.sl;obtain⟨a3,n3,c3,e3⟩:=hv.hi.sl;obtain⟨a4,n4,c4,e4⟩:=hv.de.sl;obtain⟨NN,hNN⟩:=eX ((n*4)*(n*4));have aG0:((n:Int)*4)*((n:Int)*4)=(NN:Int):=by rw[hNN];simp
 have aEm:NN<=9216:=by
  rw[hNN];have h4:n*4<=96:=by omega
  exact Nat.mul_le_mul h4 h4
 rw[<-hn,<-hNN]at hpx;have hmk:=iO NN (by omega);have HV:=qH hv;have HE:Hd (ka=.slice a1 n c1∧kw=.slice a2 n2 c2∧kh=.slice a3 n3 c3∧kd=.slice a4 n4 c4):=⟨e1,e2,e3,e4⟩;have HPX:=qH hpx;have HGR:=qH hgr;have ny:Hd (gB.pairs.length<=100000∧gB.steps.length<=1000000000∧jB gB.pairs.length gB.steps 10000 none gB.pairs.length (replicate gB.pairs.length 0)=some on∧R=⟨gB,gA.pairs.length,first++[gB.steps.length],on⟩):=⟨hpl,hsl,hon,hR⟩;have HN:=qH hn;clear hv hM hpx hgr hpl hsl hon hR hn hNN;rw[e1,e2,e3,e4];clear e1 e2 e3 e4;go_enter func62,ntmps62;go_wp2_with fail;have HW1:Hd (Mod No w ((w.alloc (.cells #[.slice a1 n c1,.slice a2 n2 c2,.slice a3 n3 c3,.slice a4 n4 c4] 86)).alloc (.cells #[aH,aH,aH,aH,aH,I 0,aH,aH,aH,aH] 168))∧aG ((w.alloc (.cells #[.slice a1 n c1,.slice a2 n2 c2,.slice a3 n3 c3,.slice a4 n4 c4] 86)).alloc (.cells #[aH,aH,aH,aH,aH,I 0,aH,aH,aH,aH] 168)) w.heap.size [.slice a1 n c1,.slice a2 n2 c2,.slice a3 n3 c3,.slice a4 n4 c4] 86∧aG ((w.alloc (.cells #[.slice a1 n c1,.slice a2 n2 c2,.slice a3 n3 c3,.slice a4 n4 c4] 86)).alloc (.cells #[aH,aH,aH,aH,aH,I 0,aH,aH,aH,aH] 168)) (w.heap.size+1) [aH,aH,aH,aH,aH,I 0,aH,aH,aH,aH] 168):=⟨((Mod.refl _ _).alloc _).alloc _,gq w _ _,fE w _ _⟩;generalize (w.alloc (.cells #[.slice a1 n c1,.slice a2 n2 c2,.slice a3 n3 c3,.slice a4 n4 c4] 86)).alloc (.cells #[aH,aH,aH,aH,aH,I 0,aH,aH,aH,aH] 168)=W1 at HW1 ⊢;have b0:=HW1.o.2.1.cell 0 rfl;have b1:=HW1.o.2.1.cell 1 rfl;have b2:=HW1.o.2.1.cell 2 rfl;have b3:=HW1.o.2.1.cell 3 rfl;have B0:=HW1.o.2.1.aS 0 rfl;have B1:=HW1.o.2.1.aS 1 rfl;have B2:=HW1.o.2.1.aS 2 rfl;have B3:=HW1.o.2.1.aS 3 rfl;have C0:=HW1.o.2.1.MF 0 rfl;have C1:=HW1.o.2.1.MF 1 rfl;have C2:=HW1.o.2.1.MF 2 rfl;have C3:=HW1.o.2.1.MF 3 rfl;go_cut [5] from 16 to 21 (fun s5 wc=>∃G NU,s5=Jx G 0∧aEj W1 NN (.slice a1 n c1) (.slice a2 n2 c2) (.slice a3 n3 c3) (.slice a4 n4 c4) G NU wc)
 case first=>
  go_region
  all_goals (try go_wp2_with fail)
  all_goals go_meet
  all_goals first
   | exact⟨_,_,rfl,aEk aEm⟩
   | exact⟨_,_,rfl,aEl aEm⟩
 case rest=>
  obtain⟨G,NU,rfl,hG⟩:=hcut;clear b0 b1 b2 b3 B0 B1 B2 B3 C0 C1 C2 C3 hmk;have HI0:Hd (PG W1 v base G ka kw kh kd aH (I 0) (Jn NU NN NN) aH aH aH ⟨[],replicate NN 0,[]⟩ [] wc):=by
   have hm:=HW1.o.1.no hG.2.2.1;refine⟨⟨by rw[HE.o.1,HE.o.2.1,HE.o.2.2.1,HE.o.2.2.2];exact hG.1,HV.o.no hm,Row.nil _ _,hG.2.1,Row.nil _ _⟩,Row.nil _ _,hG.2.2.1,fun q hq=>(by cases hq),fun q hq=>(by cases hq),fun q hq=>(by cases hq),fun q hq=>(by cases hq;exact hG.2.2.2.2),fun q hq=>(by cases hq),⟨by simp;omega,fun u hu=>by rw[eq_of_mem_replicate hu];exact Nat.zero_le _⟩,hG.2.2.2.1⟩
  clear hG;generalize (Jn NU NN NN)=VN at HI0;clear aG0 aEm;go_wp2_with fail;go_loopg [6] n (fun gh v6 wr=>∃(x:Nat) (vp:Value) (g:M3.Gr),x<=n∧gh=n-x∧v6=I x∧kS n gh x g=some gA∧PG W1 v base G ka kw kh kd vp (I 0) VN aH aH aH g [] wr)
  case atStart=>exact⟨0,aH,_,by omega,by omega,rfl,HPX.o,HI0.o⟩
  case round=>
   clear HI0 HPX;obtain⟨x,vp,g,hxn,hgk,rfl,hgo,hI⟩:=hrel;have HI:=qH hI;by_cases hlt:x<n
   ·obtain⟨c,hc⟩:∃c,gk=c+1:=⟨n-(x+1),by omega⟩;rw[hc]at hgo;obtain⟨g2,hy,hx2⟩:=UG hgo;have HY:=qH hy;have I7:=qH hx2;have HC:Hd (c=n-(x+1)):=qH <| by omega
    have hxi:(x:Int)<n:=by omega
    clear hI hgo hy hx2 hc;go_wp2_with fail;go_loopg [7] (n-(x+1)) (fun gh v7 wr=>∃(y:Nat) (vp:Value) (g:M3.Gr),y<=n∧gh=n-y∧v7=I y∧lH n x gh y g=some g2∧PG W1 v base G ka kw kh kd vp (I 0) VN aH aH aH g [] wr)
    case atStart=>exact⟨x+1,vp,g,by omega,rfl,by go_num,HY.o,HI.o⟩
    case round=>
     clear HI HY;obtain⟨y,vp,g,hyn,hgy,rfl,hgo,hI⟩:=hrel;have HI:=qH hI;by_cases hly:y<n
     ·obtain⟨c,hc⟩:∃c,gk=c+1:=⟨n-(y+1),by omega⟩;rw[hc]at hgo;obtain⟨hpl,k,ps,ns,hgn,hy2⟩:=UF hgo;rw[HN.o]at hgn;have h53:=QS wr v base G ka kw kh kd vp (I 0) VN aH aH aH g.pairs g.nums g.steps hI.ng ⟨x,0,y,0⟩ ⟨by show x<24;omega,by show 0<4;omega,by show y<24;omega,by show 0<4;omega⟩ (by omega) hI.ok.nl (fun u hu=>by have:=hI.ok.nv u hu;omega) hgn;have HGN:=qH hgn;have HY2:=qH hy2;have HC2:Hd (c=n-(y+1)):=qH <| by omega
      have hyi:(y:Int)<n:=by omega
      clear hI hgo hgn hy2 hc;go_wp2_with fail;refine h53.mono ?_;rintro e w8 ⟨rfl,vp3,hN8,Qs,Jm⟩;have gU:=qH (HI.o.num HGN.o hN8 Qs Jm);clear h53 hN8 Qs Jm HI;go_wp2;go_roundg (n-(y+1))
      case measure=>omega
      case rel=>exact⟨y+1,vp3,_,by omega,rfl,by go_num,by rw[<-HC2.o];exact HY2.o,gU.o⟩
     ·have aFI:y=n:=by omega
      rw[hgy,aFI,Nat.sub_self]at hgo;have HG:=qH (dY hgo);have hyi:¬(y:Int)<n:=by omega
      clear hI hgo hgy aFI;go_wp2;go_roundg (n-(x+1))
      case measure=>omega
      case rel=>exact⟨x+1,vp,g2,by omega,rfl,by go_num,by rw[<-HC.o];exact I7.o,by rw[<-HG.o];exact HI.o⟩
   ·have aFJ:x=n:=by omega
    rw[hgk,aFJ,Nat.sub_self]at hgo;have HG:=qH (dY hgo);have hxi:¬(x:Int)<n:=by omega
    obtain⟨np,hnp⟩:=eX g.pairs.length;obtain⟨pA,pC,BN,-,-⟩:=hI.ng.pr.open (n:=np) hnp.symm;have k4:=hI.ng.blk.cell 4 rfl;rw[BN]at k4;have k5:=hI.ng.blk.cell 5 rfl;have f5:=hI.ng.blk.free 5;have HI1:Hd (PG W1 v base G ka kw kh kd vp (I np) VN aH aH aH gA [] (wr.setCell (J G 5) (I np))):=by rw[<-HG.o];exact hI.aEi _
    have HNP:Hd (np=gA.pairs.length):=by rw[<-HG.o];exact hnp
    clear hI hgo hgk aFJ BN hnp;go_wp2_with fail;clear k4 k5 f5 HI HG;generalize wr.setCell (J G 5) (I np)=W2 at HI1 ⊢;go_loopg [8] 10000 (fun gh v8 wr=>∃(i:Nat) (vp vs vf:Value) (g:M3.Gr) (fi:List Nat),v8=I i∧i+gh<=10000∧fi.length=i∧M3.grow v gh i g fi=some (gB,first)∧PG W1 v base G ka kw kh kd vp (I np) VN vs vf aH g fi wr)
    case atStart=>exact⟨0,vp,aH,aH,gA,[],rfl,by omega,rfl,HGR.o,HI1.o⟩
    case round=>
     clear HI1 HGR;obtain⟨i,vp,vs,vf,g,fi,rfl,hib,hfl,hgo,hI⟩:=hrel;have HI:=qH hI
     match gk,hgo with
     | 0,hgo=>cases hgo
     | f+1,hgo=>
      obtain⟨pn,hpn⟩:=eX g.pairs.length;obtain⟨pA,pC,BN,-,-⟩:=hI.ng.pr.open (n:=pn) hpn.symm;obtain⟨sn,hsn⟩:=eX g.steps.length;obtain⟨sA,sC,evs,-,-⟩:=hI.ng.sp.open (n:=sn) hsn.symm;obtain⟨fA,fC,uH,-,hown⟩:=hI.fi.open (n:=i) hfl;have hown:wr.ownsRow 0 3 1 (.slice fA i fC) i (fi.flatMap dh.f):=hown;have k4:=hI.ng.blk.cell 4 rfl;rw[BN]at k4;have k7:=hI.ng.blk.cell 7 rfl;rw[evs]at k7;have k8:=hI.ng.blk.cell 8 rfl;rw[uH]at k8;obtain⟨i0,af,hz0,hz1,hz2⟩:=info_parts aID;have y5:Hd (vf=.slice fA i fC∧fi.length=i):=⟨uH,hfl⟩;have hGf:some G≠(Value.slice fA i fC).ownBlock:=by rw[<-uH];exact fun e=>hI.ng.blk.apart hI.fi (by decide) e.symm
      rcases grow_step hgo with ⟨hc,he⟩ | ⟨hc,hs5,g2,hl4,hnext⟩
      ·have hii:¬(i:Int)<pn:=by omega
       have hgg:g=gB∧fi=first:=by cases he;exact⟨rfl,rfl⟩
       obtain⟨rfl,rfl⟩:=hgg;have hend:=ny.o;have aG1:sn<=1000000000:=by rw[hsn];exact hend.2.1
       have HSN:=qH hsn.symm;have HI:=qH hI;clear hI hgo BN evs uH hsn hfl hpn hc he hend;go_wp2_with (at_builtin;refine wpList_append_lies _ rfl _ _ 95 rfl 0 3 i0 _ 1 8 underlying95 af hz0 hz1 hz2 rfl (by omega) (.slice fA i fC) i (fi.flatMap dh.f) rfl (hown.alloc _) (J wr.heap.size 0) 1 1 [I sn] rfl rfl (World.news_of_block (cs:=#[I sn]) (t:=3) (fr:=(0,0)) (heap_alloc_new wr _)) (by intro u hu;simp at hu;rw[hu];rfl) (by omega) (by unfold maxLen;omega) (by omega) (by simp) (wr.heap.size+1) (by simp) ?_);intro gg cap2 w9 qL hgrow hat fJ;have AZ:=HI.o.no ((Mod.refl _ _).alloc (.cells #[I sn] 3));have hr9:Row dh w9 (Jn gg (i+1) cap2) (fi++[g.steps.length]):=jq y5.o.2 (by rw[HSN.o];rfl) qL;have hf9:aN (wr.alloc (.cells #[I sn] 3)) vf (Jn gg (i+1) cap2):=gW (H:=wr.heap.size+1) (by rw[y5.o.1];exact hat) (by simp);have Ye:aG w9 G _ 168:=AZ.ng.blk.grown hgrow hGf;have a8:=Ye.cell 8 rfl;rw[y5.o.1]at a8;have b8:=Ye.free 8;have wC:=qH (AZ.more (by rw[y5.o.1];exact hgrow) hr9 hf9);clear AZ hr9 hf9 Ye qL hgrow hat fJ hown af hz0 hz1 hz2 k4 k7 k8 hGf HI;have h55:=Gz _ v base G ka kw kh kd vp (I np) VN vs (Jn gg (i+1) cap2) g wC.o.ng ny.o.1 ny.o.2.1 ny.o.2.2.1;go_wp2_with fail;clear a8 b8;refine h55.mono ?_;rintro e w5 ⟨rfl,vo,hF⟩;have hP:=wC.o;generalize w9.setCell (J G 8) (Jn gg (i+1) cap2)=W3 at hP hF wC h55;clear h55;have hfi:=hP.fi.mod hF.md (fun q hq e=>hP.ng.blk.apart hP.fi (by decide) (by rw[hq,e]));have hmd:=hP.md.trans' hF.md (fun q hq e=>by have:=hP.oG;omega);have iH:=HW1.o.2.2.mod hmd (fun x=>x);obtain⟨p1,p2,p3,ep⟩:=hF.ng.pr.sl;obtain⟨q1,q2,q3,eq⟩:=hF.ng.nu.sl;obtain⟨s1,s2,s3,es⟩:=hF.ng.sp.sl;obtain⟨o1,o2,o3,eo⟩:=hF.on.sl;have HEQ:Hd (vp=.slice p1 p2 p3∧VN=.slice q1 q2 q3∧vs=.slice s1 s2 s3∧vo=.slice o1 o2 o3):=⟨ep,eq,es,eo⟩;have HFA:Hd (Mod No W1 w5∧Row dh w5 (Jn gg (i+1) cap2) (fi++[g.steps.length])∧FO W3 v base G ka kw kh kd vp (I np) VN vs (Jn gg (i+1) cap2) vo g on w5):=⟨hmd,hfi,hF⟩;have NQ:=hF.ng.blk;rw[HE.o.1,HE.o.2.1,HE.o.2.2.1,HE.o.2.2.2,ep,eq,es,eo]at NQ;have t0:=NQ.cell 0 rfl;have t1:=NQ.cell 1 rfl;have t2:=NQ.cell 2 rfl;have t3:=NQ.cell 3 rfl;have t4:=NQ.cell 4 rfl;have t5:=NQ.cell 5 rfl;have t6:=NQ.cell 6 rfl;have t7:=NQ.cell 7 rfl;have t8:=NQ.cell 8 rfl;have t9:=NQ.cell 9 rfl;have u0:=iH.cell 0 rfl;have u1:=iH.cell 1 rfl;have u2:=iH.cell 2 rfl;have u3:=iH.cell 3 rfl;have u4:=iH.cell 4 rfl;have u5:=iH.cell 5 rfl;have u6:=iH.cell 6 rfl;have u7:=iH.cell 7 rfl;have u8:=iH.cell 8 rfl;have u9:=iH.cell 9 rfl;have x0:=iH.free 0;have x1:=iH.free 1;have x2:=iH.free 2;have x3:=iH.free 3;have x4:=iH.free 4;have x5:=iH.free 5;have x6:=iH.free 6;have x7:=iH.free 7;have x8:=iH.free 8;have x9:=iH.free 9;have Xn:=qH iH;clear hP hF hfi hmd NQ iH wC ep eq es eo;go_wp2;clear u0 u1 u2 u3 u4 u5 u6 u7 u8 u9 x0 x1 x2 x3 x4 x5 x6 x7 x8 x9 t0 t1 t2 t3 t4 t5 t6 t7 t8 t9;have hR9:=(((((((((Xn.o.set 0 (.slice a1 n c1)).set 1 (.slice a2 n2 c2)).set 2 (.slice a3 n3 c3)).set 3 (.slice a4 n4 c4)).set 4 (.slice p1 p2 p3)).set 5 (I np)).set 6 (.slice q1 q2 q3)).set 7 (.slice s1 s2 s3)).set 8 (Jn gg (i+1) cap2)).set 9 (.slice o1 o2 o3)
       have DY:=((((((((((Mod.refl (fun q=>q=w.heap.size+1) w5).setCell (a:=⟨w.heap.size+1,0,none⟩) (fun _=>rfl) (.slice a1 n c1)).setCell (a:=⟨w.heap.size+1,1,none⟩) (fun _=>rfl) (.slice a2 n2 c2)).setCell (a:=⟨w.heap.size+1,2,none⟩) (fun _=>rfl) (.slice a3 n3 c3)).setCell (a:=⟨w.heap.size+1,3,none⟩) (fun _=>rfl) (.slice a4 n4 c4)).setCell (a:=⟨w.heap.size+1,4,none⟩) (fun _=>rfl) (.slice p1 p2 p3)).setCell (a:=⟨w.heap.size+1,5,none⟩) (fun _=>rfl) (I np)).setCell (a:=⟨w.heap.size+1,6,none⟩) (fun _=>rfl) (.slice q1 q2 q3)).setCell (a:=⟨w.heap.size+1,7,none⟩) (fun _=>rfl) (.slice s1 s2 s3)).setCell (a:=⟨w.heap.size+1,8,none⟩) (fun _=>rfl) (Jn gg (i+1) cap2)).setCell (a:=⟨w.heap.size+1,9,none⟩) (fun _=>rfl) (.slice o1 o2 o3);generalize (((((((((w5.setCell ⟨w.heap.size+1,0,none⟩ (.slice a1 n c1)).setCell ⟨w.heap.size+1,1,none⟩ (.slice a2 n2 c2)).setCell ⟨w.heap.size+1,2,none⟩ (.slice a3 n3 c3)).setCell ⟨w.heap.size+1,3,none⟩ (.slice a4 n4 c4)).setCell ⟨w.heap.size+1,4,none⟩ (.slice p1 p2 p3)).setCell ⟨w.heap.size+1,5,none⟩ (I np)).setCell ⟨w.heap.size+1,6,none⟩ (.slice q1 q2 q3)).setCell ⟨w.heap.size+1,7,none⟩ (.slice s1 s2 s3)).setCell ⟨w.heap.size+1,8,none⟩ (Jn gg (i+1) cap2)).setCell ⟨w.heap.size+1,9,none⟩ (.slice o1 o2 o3)=W9 at hR9 DY ⊢;have z0:=hR9.cell 0 rfl;have z1:=hR9.cell 1 rfl;have z2:=hR9.cell 2 rfl;have z3:=hR9.cell 3 rfl;have z4:=hR9.cell 4 rfl;have z5:=hR9.cell 5 rfl;have z6:=hR9.cell 6 rfl;have z7:=hR9.cell 7 rfl;have z8:=hR9.cell 8 rfl;have z9:=hR9.cell 9 rfl;have hFF:=HFA.o.2.2;have hst:np=R.st:=by rw[ny.o.2.2.2];exact HNP.o
       refine bodyPost_ret (v:=.agg #[.slice a1 n c1,.slice a2 n2 c2,.slice a3 n3 c3,.slice a4 n4 c4,.slice p1 p2 p3,I np,.slice q1 q2 q3,.slice s1 s2 s3,Jn gg (i+1) cap2,.slice o1 o2 o3]) (by simp[results,results62,go_sem,z0,z1,z2,z3,z4,z5,z6,z7,z8,z9]) rfl ?_;have hS:=Safe.one Xn.o;have hVP:=hFF.ng.vw.far DY hS (by decide) (by decide);rw[HE.o.1,HE.o.2.1,HE.o.2.2.1,HE.o.2.2.2]at hVP;refine⟨(HW1.o.1.no HFA.o.1).trans' DY (fun q hq e=>by omega),vp,VN,vs,Jn gg (i+1) cap2,vo,by rw[<-hst,HEQ.o.1,HEQ.o.2.1,HEQ.o.2.2.1,HEQ.o.2.2.2],hVP,?_,hFF.ng.nu.sl,?_,?_,?_⟩
       ·rw[ny.o.2.2.2];exact hFF.ng.pr.safe DY hS (by decide) (by decide)
       ·rw[ny.o.2.2.2];exact hFF.ng.sp.safe DY hS (by decide) (by decide)
       ·rw[ny.o.2.2.2];exact HFA.o.2.1.safe DY hS (by decide) (by decide)
       ·rw[ny.o.2.2.2];exact hFF.on.safe DY hS (by decide) (by decide)
      ·have HL4:=qH hl4;have rM:=qH hnext;have hii:(i:Int)<pn:=by omega
       have HSN:=qH hsn.symm;have aG1:sn<=1000000000:=by omega
       clear hI hgo BN evs uH hl4 hnext hsn hfl hpn hc hs5;go_wp2_with (at_builtin;refine wpList_append_lies _ rfl _ _ 95 rfl 0 3 i0 _ 1 8 underlying95 af hz0 hz1 hz2 rfl (by omega) (.slice fA i fC) i (fi.flatMap dh.f) rfl (hown.alloc _) (J wr.heap.size 0) 1 1 [I sn] rfl rfl (World.news_of_block (cs:=#[I sn]) (t:=3) (fr:=(0,0)) (heap_alloc_new wr _)) (by intro u hu;simp at hu;rw[hu];rfl) (by omega) (by unfold maxLen;omega) (by omega) (by simp) (wr.heap.size+1) (by simp) ?_);intro gg cap2 w9 qL hgrow hat fJ;have AZ:=HI.o.no ((Mod.refl _ _).alloc (.cells #[I sn] 3));have hr9:Row dh w9 (Jn gg (i+1) cap2) (fi++[g.steps.length]):=jq y5.o.2 (by rw[HSN.o];rfl) qL;have hf9:aN (wr.alloc (.cells #[I sn] 3)) vf (Jn gg (i+1) cap2):=gW (H:=wr.heap.size+1) (by rw[y5.o.1];exact hat) (by simp);have Ye:aG w9 G _ 168:=AZ.ng.blk.grown hgrow hGf;have a8:=Ye.cell 8 rfl;rw[y5.o.1]at a8;have b8:=Ye.free 8;have wC:=qH (AZ.more (by rw[y5.o.1];exact hgrow) hr9 hf9);clear AZ hr9 hf9 Ye qL hgrow hat fJ hown af hz0 hz1 hz2 k4 k7 k8 hGf HI;go_wp2_with fail;clear a8 b8;generalize w9.setCell (J G 8) (Jn gg (i+1) cap2)=W3 at wC ⊢;generalize (Jn gg (i+1) cap2)=VF at wC;go_loopg [9] 4 (fun gh v9 wr=>∃(l:Nat) (vp vs:Value) (g:M3.Gr),l<=4∧gh=4-l∧v9=I l∧kT v i gh g=some g2∧PG W1 v base G ka kw kh kd vp (I np) VN vs VF aH g (fi++[sn]) wr)
       case atStart=>exact⟨0,vp,vs,g,by omega,rfl,rfl,HL4.o,by rw[<-HSN.o];exact wC.o⟩
       case round=>
        clear wC HL4;obtain⟨l,vp,vs,g3,hl4,hgl,rfl,hgo,hI⟩:=hrel;have HI:=qH hI;by_cases hll:l<4
        ·obtain⟨c,hc⟩:∃c,gk=c+1:=⟨4-(l+1),by omega⟩;rw[hc]at hgo;obtain⟨g4,hle,QC⟩:=UH hgo;have hcl:3-c=l:=by omega
         rw[hcl]at hle;have h54:=Xh wr v base G ka kw kh kd vp (I np) VN vs VF aH g3 hI.ng hI.ok i l hll (by omega) hle;have HG2:=qH QC;have HC2:Hd (c=4-(l+1)):=qH <| by omega
         have yZ:(l:Int)<4:=by omega
         clear hI hgo hle QC hc hcl;go_wp2_with fail;refine h54.mono ?_;rintro e w8 ⟨rfl,vp3,vs3,hL8⟩;have gU:=qH (HI.o.lead hL8);clear h54 hL8 HI;go_wp2;go_roundg (4-(l+1))
         case measure=>omega
         case rel=>exact⟨l+1,vp3,vs3,g4,by omega,rfl,by go_num,by rw[<-HC2.o];exact HG2.o,gU.o⟩
        ·have hl2:l=4:=by omega
         subst hl2;rw[hgl,Nat.sub_self]at hgo;have HG:=qH (dY hgo);clear hI hgo hgl hl4 hll;go_wp2;go_roundg f
         case measure=>omega
         case rel=>exact⟨i+1,vp,vs,VF,g2,fi++[sn],by go_num,by omega,by simp[y5.o.2],by rw[<-HSN.o];exact rM.o,by rw[<-HG.o];exact HI.o⟩
end
end Go.Proofs.YtoebidlghdidoaaGreatDoor
