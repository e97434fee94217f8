import Derived.Test.YtoebidlghdidoaaGreatDoorAX
set_option maxHeartbeats 1600000
set_option maxRecDepth 100000
namespace Go.Proofs.YtoebidlghdidoaaGreatDoor
open M3 M2 Tryz List Go.RowKit
attribute [local go_sem ↓] Go.wp_at_zero Go.wp_at_succ
variable {w wr:World} {g n cap i round np:Nat} {xs on ow R:List Int} {x:Int} {steps:List M2.Stp} {far:List Nat}
theorem Xh(w:World)(v:M2.View)(base G:Nat)(ka kw kh kd vp c5 vn vs c8 c9:Value)(g:M3.Gr)(h:NG v base G ka kw kh kd vp c5 vn vs c8 c9 g.pairs g.nums g.steps w)(hok:GOk v.k.ahead.length g)(fr l:Nat)(hl:l<4)(hfr:fr<=100000){g':M3.Gr}(hM:M3.lead v fr l g=some g'):Calls prog 98 #[.pointer (some ⟨G,0,none⟩),.int .i64 fr,.int .i64 l] w fun e w'=>e=.returned (.tuple #[])∧∃Dl vs',LG w v base G ka kw kh kd vp c5 vn vs c8 c9 Dl vs' g' w':=by
 obtain⟨n,hn⟩:=eX v.k.ahead.length;have DW:n<=24:=by rw[hn];exact h.vw.n24
 unfold M3.lead at hM
 cases hp:g.pairs[fr]? with
 | none=>rw[hp]at hM;cases hM
 | some p=>
  rw[hp]at hM
  dsimp only at hM
  split at hM
  ·rename_i hpk;rw[<-hn]at hM hpk;obtain⟨a1,c1,e1,-,-⟩:=h.vw.ah.open hn.symm;obtain⟨a2,c2,e2,-,-⟩:=h.vw.wo.open rfl;obtain⟨a3,c3,e3,-,-⟩:=h.vw.hi.open (n:=n) (by rw[h.vw.nh];exact hn.symm);obtain⟨a4,c4,e4,-,-⟩:=h.vw.de.open (n:=n) (by rw[h.vw.ok.len];exact hn.symm);generalize v.k.words.length=NW at e2;have H78:Hd (∀(wx:World) (kind tc:Nat),VP v base ka kw kh kd wx->kind<n->tc<4->Calls prog 128 #[.agg #[.slice a1 n c1,.slice a2 NW c2,.slice a3 n c3,.slice a4 n c4],.int .i64 kind,.int .i64 tc,.int .i64 l] wx fun e w'=>e=.returned (.tuple #[.string ⟨(aW v kind tc l).1.toArray⟩,.int .i64 ((aW v kind tc l).2:Int)])∧Mod No wx w'):=fun wx kind tc hx hk ht=>by
    have:=xB wx ka kw kh kd v kind tc l hx.ah.sl hx.wo.sl hx.hi.sl hx.de hl (by rw[hx.ok.len];omega) (by omega) (by have:=hx.ok.len;have:=hx.n24;omega) (fun d hd=>by have:=(hx.ok.tak d hd).1;omega)
    rwa [e1,e2,e3,e4]at this
   obtain⟨pn,hpn⟩:=eX g.pairs.length;obtain⟨gp,cp,BN,-,-⟩:=h.pr.form (by have:=(bU hp).1;omega);rw[<-hpn]at BN;have hfp:fr<pn:=by have:=(bU hp).1;omega
   have aCu:=wE v h.vw.ok p.x p.s l hpk.2.1;have aCv:=wE v h.vw.ok p.y p.t l hpk.2.2.2;have HI0:Hd (LG w v base G ka kw kh kd vp c5 vn vs c8 c9 vp vs g w):=⟨h,aN.refl _ _,aN.refl _ _,Mod.refl _ _,hok⟩;have HM:Hd (kR n fr l p (aW v p.x p.s l) (aW v p.y p.t l) v.k.ahead (v.k.ahead.drop 0) 0 g=some g'):=hM;have HE:Hd (ka=.slice a1 n c1∧kw=.slice a2 NW c2∧kh=.slice a3 n c3∧kd=.slice a4 n c4):=⟨e1,e2,e3,e4⟩;have HN:=qH hn;have HV:=qH h.vw.ok;have Xi:=h.pr;rw[BN]at Xi;have q0:w.cell? ⟨gp,fr*4,none⟩=some (.int .i64 p.x):=Xi.cell fr 0 hp rfl;have q1:w.cell? ⟨gp,fr*4+1,none⟩=some (.int .i64 p.s):=Xi.cell fr 1 hp rfl;have q2:w.cell? ⟨gp,fr*4+2,none⟩=some (.int .i64 p.y):=Xi.cell fr 2 hp rfl;have q3:w.cell? ⟨gp,fr*4+3,none⟩=some (.int .i64 p.t):=Xi.cell fr 3 hp rfl;have k4:=h.blk.cell 4 rfl;rw[BN]at k4;have hfi:(fr:Int)<pn:=by omega
   obtain⟨px,ps,py,pt⟩:=p;simp only at hpk aCu aCv HM q0 q1 q2 q3;obtain⟨sa,hsa⟩:=eX (aW v px ps l);obtain⟨sb,hsb⟩:=eX (aW v py pt l);have aEe:=fun wx hx=>H78.o wx px ps hx hpk.1 hpk.2.1
   have aEf:=fun wx hx=>H78.o wx py pt hx hpk.2.2.1 hpk.2.2.2
   rw[<-hsa]at aEe aCu;rw[<-hsb]at aEf aCv;rw[<-hsa,<-hsb]at HM;have aFA:=qH aEe;have aFB:=qH aEf;clear h hok hM hp Xi e1 e2 e3 e4 hpn BN hn hsa hsb aEe aEf H78;go_enter func98,ntmps98;go_wp2_with fail;clear q0 q1 q2 q3 k4;have HB1:Hd (LG w v base G ka kw kh kd vp c5 vn vs c8 c9 vp vs g (w.alloc (.cells #[.int .i64 px,.int .i64 ps,.int .i64 py,.int .i64 pt] 214))∧aG (w.alloc (.cells #[.int .i64 px,.int .i64 ps,.int .i64 py,.int .i64 pt] 214)) w.heap.size [.int .i64 px,.int .i64 ps,.int .i64 py,.int .i64 pt] 214):=⟨HI0.o.no ((Mod.refl _ _).alloc _),heap_alloc_new w _⟩;have hvB:∀q,vp.ownBlock=some q->q≠w.heap.size:=fun q e e2=>by have:=HI0.o.ng.pr.lt e;omega
   generalize w.alloc (.cells #[.int .i64 px,.int .i64 ps,.int .i64 py,.int .i64 pt] 214)=W1 at HB1 ⊢;have hBw:w.heap.size<=w.heap.size:=dH _;generalize hBQ:w.heap.size=B at HB1 hvB ⊢;have hBw:w.heap.size<=B:=by omega
   clear hBQ HI0;have hne:Nonempty (After W1):=⟨⟨W1,Mod.refl _ _⟩⟩;have z0:∀x:After W1,x.val.cell? ⟨G,0,none⟩=some (.slice a1 n c1):=fun x=>by have h:=(HB1.o.1.ng.blk.mod x.property (fun y=>y)).cell 0 rfl;rw[HE.o.1]at h;exact h
   have z1:∀x:After W1,x.val.cell? ⟨G,1,none⟩=some (.slice a2 NW c2):=fun x=>by have h:=(HB1.o.1.ng.blk.mod x.property (fun y=>y)).cell 1 rfl;rw[HE.o.2.1]at h;exact h
   have z2:∀x:After W1,x.val.cell? ⟨G,2,none⟩=some (.slice a3 n c3):=fun x=>by have h:=(HB1.o.1.ng.blk.mod x.property (fun y=>y)).cell 2 rfl;rw[HE.o.2.2.1]at h;exact h
   have z3:∀x:After W1,x.val.cell? ⟨G,3,none⟩=some (.slice a4 n c4):=fun x=>by have h:=(HB1.o.1.ng.blk.mod x.property (fun y=>y)).cell 3 rfl;rw[HE.o.2.2.2]at h;exact h
   have y0:=fun(x:After W1)=>(HB1.o.2.mod x.property (fun y=>y)).cell 0 rfl
   have y1:=fun(x:After W1)=>(HB1.o.2.mod x.property (fun y=>y)).cell 1 rfl
   have y2:=fun(x:After W1)=>(HB1.o.2.mod x.property (fun y=>y)).cell 2 rfl
   have y3:=fun(x:After W1)=>(HB1.o.2.mod x.property (fun y=>y)).cell 3 rfl
   refine dw (by kernel_rfl) (by kernel_rfl) ?_;repeat (quiet_step (exact Calls.calm (aFA.o _ (HB1.o.1.ng.vw.no (Subtype.property _)))))
   refine wpQuiet_nil ?_;rintro _ ⟨X1,rfl⟩;have HB2:Hd (LG w v base G ka kw kh kd vp c5 vn vs c8 c9 vp vs g X1.val∧aG X1.val B [.int .i64 px,.int .i64 ps,.int .i64 py,.int .i64 pt] 214):=⟨HB1.o.1.no X1.property,HB1.o.2.mod X1.property (fun y=>y)⟩;generalize X1.val=W2 at HB2 ⊢;clear HB1 hne z0 z1 z2 z3 y0 y1 y2 y3 X1 aFA;go_wp2_with fail;have hne:Nonempty (After W2):=⟨⟨W2,Mod.refl _ _⟩⟩;have z0:∀x:After W2,x.val.cell? ⟨G,0,none⟩=some (.slice a1 n c1):=fun x=>by have h:=(HB2.o.1.ng.blk.mod x.property (fun y=>y)).cell 0 rfl;rw[HE.o.1]at h;exact h
   have z1:∀x:After W2,x.val.cell? ⟨G,1,none⟩=some (.slice a2 NW c2):=fun x=>by have h:=(HB2.o.1.ng.blk.mod x.property (fun y=>y)).cell 1 rfl;rw[HE.o.2.1]at h;exact h
   have z2:∀x:After W2,x.val.cell? ⟨G,2,none⟩=some (.slice a3 n c3):=fun x=>by have h:=(HB2.o.1.ng.blk.mod x.property (fun y=>y)).cell 2 rfl;rw[HE.o.2.2.1]at h;exact h
   have z3:∀x:After W2,x.val.cell? ⟨G,3,none⟩=some (.slice a4 n c4):=fun x=>by have h:=(HB2.o.1.ng.blk.mod x.property (fun y=>y)).cell 3 rfl;rw[HE.o.2.2.2]at h;exact h
   have y2:=fun(x:After W2)=>(HB2.o.2.mod x.property (fun y=>y)).cell 2 rfl
   have y3:=fun(x:After W2)=>(HB2.o.2.mod x.property (fun y=>y)).cell 3 rfl
   refine dw (by kernel_rfl) (by kernel_rfl) ?_;repeat (quiet_step (exact Calls.calm (aFB.o _ (HB2.o.1.ng.vw.no (Subtype.property _)))))
   refine wpQuiet_nil ?_;rintro _ ⟨X2,rfl⟩;have HB3:Hd (LG w v base G ka kw kh kd vp c5 vn vs c8 c9 vp vs g X2.val∧aG X2.val B [.int .i64 px,.int .i64 ps,.int .i64 py,.int .i64 pt] 214):=⟨HB2.o.1.no X2.property,HB2.o.2.mod X2.property (fun y=>y)⟩;generalize X2.val=W3 at HB3 ⊢;clear HB2 hne z0 z1 z2 z3 y2 y3 X2 aFB;obtain⟨SA,Yd⟩:=eX (⟨sa.1.toArray⟩:ByteArray);obtain⟨SB,hSB⟩:=eX (⟨sb.1.toArray⟩:ByteArray);have Gp:Hd (SA=(⟨sa.1.toArray⟩:ByteArray)∧SB=(⟨sb.1.toArray⟩:ByteArray)):=⟨Yd,hSB⟩;rw[<-Yd,<-hSB];clear Yd hSB;obtain⟨LA,hLA⟩:=eX sa.2;obtain⟨LB,hLB⟩:=eX sb.2;have HLL:Hd (LA=sa.2∧LB=sb.2):=⟨hLA,hLB⟩;rw[<-hLA,<-hLB];rw[<-hLA]at aCu;rw[<-hLB]at aCv;clear hLA hLB;have z0:=HB3.o.1.ng.blk.cell 0 rfl;rw[HE.o.1]at z0;go_wp2_with fail;clear z0;go_loopg [60] n (fun gh v60 wr=>∃(x:Nat) (DL vs1:Value) (g1:M3.Gr),x<=n∧gh=n-x∧v60=.int .i64 x∧DL.ownBlock≠some B∧kR n fr l ⟨px,ps,py,pt⟩ sa sb v.k.ahead (v.k.ahead.drop x) x g1=some g'∧LG w v base G ka kw kh kd vp c5 vn vs c8 c9 DL vs1 g1 wr∧aG wr B [.int .i64 px,.int .i64 ps,.int .i64 py,.int .i64 pt] 214)
   case atStart=>exact⟨0,vp,vs,g,by omega,by omega,rfl,fun e=>hvB B e rfl,HM.o,HB3.o.1,HB3.o.2⟩
   case round=>
    clear HB3 HM;obtain⟨x,DL,vs1,g1,hxn,hgk,rfl,aFC,hgo,hI,hB⟩:=hrel;have HI:Hd (LG w v base G ka kw kh kd vp c5 vn vs c8 c9 DL vs1 g1 wr∧aG wr B [.int .i64 px,.int .i64 ps,.int .i64 py,.int .i64 pt] 214):=⟨hI,hB⟩;by_cases hlt:x<n
    ·obtain⟨r,hr⟩:∃r,v.k.ahead[x]?=some r:=⟨v.k.ahead[x]'(by have:=HN.o;omega),bG _⟩;obtain⟨k,hk,hcase⟩:=UC hr hgo;have hra:=hI.ng.vw.ah;rw[HE.o.1]at hra;obtain⟨ga,hga⟩:∃g,a1=some ⟨g,0,none⟩:=by
      obtain⟨g2,c2,h2,-⟩:=hI.ng.vw.ah.form (by have:=HN.o;omega);rw[HE.o.1]at h2;injection h2 with h2 _;exact⟨g2,h2⟩
     subst hga;have r0:wr.cell? ⟨ga,x*4,none⟩=some (.int .i64 r.a):=hra.cell x 0 hr rfl;have r1:wr.cell? ⟨ga,x*4+1,none⟩=some (.int .i64 r.b):=hra.cell x 1 hr rfl;have r2:wr.cell? ⟨ga,x*4+2,none⟩=some (.int .i64 r.c):=hra.cell x 2 hr rfl;have r3:wr.cell? ⟨ga,x*4+3,none⟩=some (.int .i64 r.d):=hra.cell x 3 hr rfl;obtain⟨W4,hW4⟩:∃W4,wr.alloc (.cells #[.int .i64 r.a,.int .i64 r.b,.int .i64 r.c,.int .i64 r.d] 102)=W4:=⟨_,rfl⟩;have hQ:aG W4 wr.heap.size [.int .i64 r.a,.int .i64 r.b,.int .i64 r.c,.int .i64 r.d] 102:=by rw[<-hW4];exact heap_alloc_new wr _
     have HI4:Hd (LG w v base G ka kw kh kd vp c5 vn vs c8 c9 DL vs1 g1 W4∧aG W4 B [.int .i64 px,.int .i64 ps,.int .i64 py,.int .i64 pt] 214):=by rw[<-hW4];exact⟨hI.no ((Mod.refl _ _).alloc _),hB.alloc _⟩
     have cQ:W4.cell? ⟨wr.heap.size,l,none⟩=some (.int .i64 k):=hQ.cell l (by have q:=zq r l hl;rw[hk]at q;exact q);have cB:=HI4.o.2.cell 0 rfl;have hxi:(x:Int)<n:=by omega
     have yZ:(l:Int)<4:=by omega
     clear hI hB hra hr hgo hQ hk;go_wp2_with fail;clear hW4 r0 r1 r2 r3 HI;rcases hcase with ⟨rfl,g2,hY,hX⟩ | ⟨hne,hX⟩
     ·have HYY:Hd (jy n fr l ⟨k,ps,py,pt⟩ sa sb x (v.k.ahead.drop 0) 0 g1=some g2):=hY;have HXX:=qH hX;clear hY hX;go_quiet (fail);have uF:Hd (LG w v base G ka kw kh kd vp c5 vn vs c8 c9 DL vs1 g1 (W4.drewN nq)∧aG (W4.drewN nq) B [.int .i64 k,.int .i64 ps,.int .i64 py,.int .i64 pt] 214):=⟨HI4.o.1.no ((Mod.refl _ _).drewN _),HI4.o.2.drewN _⟩;generalize W4.drewN nq=W5 at uF ⊢;clear HI4 cQ cB;have z0:=uF.o.1.ng.blk.cell 0 rfl;rw[HE.o.1]at z0;go_wp2_with fail;clear z0;generalize wr.heap.size=Q1;go_loopg [79] n (fun gh v79 wr=>∃(y:Nat) (SS vs2:Value) (g3:M3.Gr),y<=n∧gh=n-y∧v79=.int .i64 y∧SS.ownBlock≠some B∧jy n fr l ⟨k,ps,py,pt⟩ sa sb x (v.k.ahead.drop y) y g3=some g2∧LG w v base G ka kw kh kd vp c5 vn vs c8 c9 SS vs2 g3 wr∧aG wr B [.int .i64 k,.int .i64 ps,.int .i64 py,.int .i64 pt] 214)
      case atStart=>exact⟨0,DL,vs1,g1,by omega,by omega,rfl,aFC,HYY.o,uF.o.1,uF.o.2⟩
      case round=>
       clear uF HYY;obtain⟨y,SS,vs2,g3,hyn,hgy,rfl,aCw,hgo,hI,hB⟩:=hrel;have HI:Hd (LG w v base G ka kw kh kd vp c5 vn vs c8 c9 SS vs2 g3 wr∧aG wr B [.int .i64 k,.int .i64 ps,.int .i64 py,.int .i64 pt] 214):=⟨hI,hB⟩;by_cases hly:y<n
       ·obtain⟨r,hr⟩:∃r,v.k.ahead[y]?=some r:=⟨v.k.ahead[y]'(by have:=HN.o;omega),bG _⟩;obtain⟨kk,hk,hcase⟩:=UB hr hgo;have hra:=hI.ng.vw.ah;rw[HE.o.1]at hra;have r0:wr.cell? ⟨ga,y*4,none⟩=some (.int .i64 r.a):=hra.cell y 0 hr rfl;have r1:wr.cell? ⟨ga,y*4+1,none⟩=some (.int .i64 r.b):=hra.cell y 1 hr rfl;have r2:wr.cell? ⟨ga,y*4+2,none⟩=some (.int .i64 r.c):=hra.cell y 2 hr rfl;have r3:wr.cell? ⟨ga,y*4+3,none⟩=some (.int .i64 r.d):=hra.cell y 3 hr rfl;obtain⟨W6,hW6⟩:∃W6,wr.alloc (.cells #[.int .i64 r.a,.int .i64 r.b,.int .i64 r.c,.int .i64 r.d] 102)=W6:=⟨_,rfl⟩;have hQ:aG W6 wr.heap.size [.int .i64 r.a,.int .i64 r.b,.int .i64 r.c,.int .i64 r.d] 102:=by rw[<-hW6];exact heap_alloc_new wr _
        have BD:Hd (LG w v base G ka kw kh kd vp c5 vn vs c8 c9 SS vs2 g3 W6∧aG W6 B [.int .i64 k,.int .i64 ps,.int .i64 py,.int .i64 pt] 214):=by rw[<-hW6];exact⟨hI.no ((Mod.refl _ _).alloc _),hB.alloc _⟩
        have cQ:W6.cell? ⟨wr.heap.size,l,none⟩=some (.int .i64 kk):=hQ.cell l (by have q:=zq r l hl;rw[hk]at q;exact q);have cB:=BD.o.2.cell 2 rfl;have hyi:(y:Int)<n:=by omega
        clear hI hB hra hr hgo hQ hk;go_wp2_with fail;clear hW6 r0 r1 r2 r3 HI;rcases hcase with ⟨hkp,hg5,hs5,tt,ps',ns',hgn,hY⟩ | ⟨hne,hY⟩
        ·obtain rfl:kk=py:=hkp;have HYY:Hd (jy n fr l ⟨k,ps,kk,pt⟩ sa sb x (v.k.ahead.drop (y+1)) (y+1) ⟨ps',ns',g3.steps++[⟨fr,tt,l,sa.1,sb.1⟩]⟩=some g2):=hY;have HGN:Hd (oZ v.k.ahead.length g3.pairs g3.nums ⟨x,LA,y,LB⟩=some (tt,ps',ns')):=qH <| by
          rw[<-HN.o,HLL.o.1,HLL.o.2];exact hgn
         clear hY hgn;go_quiet (fail);have AY:Hd (LG w v base G ka kw kh kd vp c5 vn vs c8 c9 SS vs2 g3 (W6.drewN nq)∧aG (W6.drewN nq) B [.int .i64 k,.int .i64 ps,.int .i64 kk,.int .i64 pt] 214):=⟨BD.o.1.no ((Mod.refl _ _).drewN _),BD.o.2.drewN _⟩;generalize W6.drewN nq=W7 at AY ⊢;clear BD cQ cB;have h53:=QS W7 v base G ka kw kh kd SS c5 vn vs2 c8 c9 g3.pairs g3.nums g3.steps AY.o.1.ng ⟨x,LA,y,LB⟩ ⟨by show x<24;omega,aCu,by show y<24;omega,aCv⟩ (by omega) AY.o.1.ok.nl (fun u hu=>by have:=AY.o.1.ok.nv u hu;omega) HGN.o;go_wp2_with fail;refine h53.mono ?_;rintro e w8 ⟨rfl,vp3,hN8,Qs,Jm⟩;have hI8:=AY.o.1.num HGN.o hN8 Qs Jm;have hB8:aG w8 B [.int .i64 k,.int .i64 ps,.int .i64 kk,.int .i64 pt] 214:=AY.o.2.mod Jm (by
          rintro(e | e | e)
          ·exact AY.o.2.diff AY.o.1.ng.blk (by decide) e
          ·exact aCw e
          ·exact AY.o.2.apart AY.o.1.ng.nu (by decide) e)
         have aGW:vp3.ownBlock≠some B:=fun e=>by
          rcases Qs B e with h | h
          ·exact aCw h
          ·have:=AY.o.2.lt;omega
         have gU:Hd (LG w v base G ka kw kh kd vp c5 vn vs c8 c9 vp3 vs2 ⟨ps',ns',g3.steps⟩ w8∧aG w8 B [.int .i64 k,.int .i64 ps,.int .i64 kk,.int .i64 pt] 214):=⟨hI8,hB8⟩;obtain⟨sn,hsn⟩:=eX g3.steps.length;obtain⟨sA,sC,evs,-,hown⟩:=hI8.ng.sp.open (n:=sn) hsn.symm;have hown:w8.ownsRow 0 225 5 (.slice sA sn sC) sn (g3.steps.flatMap SpE.f):=hown;have HVS:Hd (vs2=.slice sA sn sC∧g3.steps.length=sn):=⟨evs,hsn.symm⟩;have k7:=hI8.ng.blk.cell 7 rfl;rw[evs]at k7;have hGl:=hI8.ng.blk.lt;have hGs:some G≠(Value.slice sA sn sC).ownBlock:=by rw[<-evs];exact fun e=>hI8.ng.blk.apart hI8.ng.sp (by decide) e.symm
         obtain⟨i0,af,hz0,hz1,hz2⟩:=info_parts aI2;rw[hsn.symm]at hs5;clear h53 hN8 Qs Jm hI8 hB8 AY evs hsn;go_wp2_with (at_builtin;refine wpList_append_lies _ rfl _ _ 166 rfl 0 225 i0 _ 5 56 underlying166 af hz0 hz1 hz2 rfl (by omega) (.slice sA sn sC) sn (g3.steps.flatMap SpE.f) rfl (hown.alloc _) ⟨w8.heap.size,0,none⟩ 1 1 [.int .i64 fr,.int .i64 tt,.int .i64 l,.string SA,.string SB] rfl rfl (World.news_of_block (cs:=#[.int .i64 fr,.int .i64 tt,.int .i64 l,.string SA,.string SB]) (t:=225) (fr:=(0,0)) (heap_alloc_new w8 _)) (by intro u hu;simp at hu;rcases hu with rfl | rfl | rfl | rfl | rfl <;> rfl) (by omega) (by unfold maxLen;omega) (by omega) (by simp) (w8.heap.size+1) (by simp) ?_);intro gg cap2 w9 qL hgrow hat fJ;have AZ:=gU.o.1.no ((Mod.refl _ _).alloc (.cells #[.int .i64 fr,.int .i64 tt,.int .i64 l,.string SA,.string SB] 225));have hB9:=gU.o.2.alloc (.cells #[.int .i64 fr,.int .i64 tt,.int .i64 l,.string SA,.string SB] 225);have hr9:Row SpE w9 (.slice (some ⟨gg,0,none⟩) (sn+1) cap2) (g3.steps++[⟨fr,tt,l,sa.1,sb.1⟩]):=jq HVS.o.2 (by rw[Gp.o.1,Gp.o.2];rfl) qL;have hf9:aN (w8.alloc (.cells #[.int .i64 fr,.int .i64 tt,.int .i64 l,.string SA,.string SB] 225)) vs2 (.slice (some ⟨gg,0,none⟩) (sn+1) cap2):=gW (H:=w8.heap.size+1) (by rw[HVS.o.1];exact hat) (by simp);have Ye:aG w9 G _ 168:=AZ.ng.blk.grown hgrow hGs;have a7:=Ye.cell 7 rfl;rw[HVS.o.1]at a7;have b7:=Ye.free 7;have aEg:=hB9.grown hgrow (fun e=>hB9.apart AZ.ng.sp (by decide) (by rw[HVS.o.1];exact e.symm));have wC:Hd (LG w v base G ka kw kh kd vp c5 vn vs c8 c9 vp3 (.slice (some ⟨gg,0,none⟩) (sn+1) cap2) ⟨ps',ns',g3.steps++[⟨fr,tt,l,sa.1,sb.1⟩]⟩ (w9.setCell ⟨G,7,none⟩ (.slice (some ⟨gg,0,none⟩) (sn+1) cap2))∧aG (w9.setCell ⟨G,7,none⟩ (.slice (some ⟨gg,0,none⟩) (sn+1) cap2)) B [.int .i64 k,.int .i64 ps,.int .i64 kk,.int .i64 pt] 214):=⟨AZ.step (by rw[HVS.o.1];exact hgrow) hr9 hf9,aEg.other (a:=⟨G,7,none⟩) (aEg.diff Ye (by decide)) _⟩;clear AZ hB9 hr9 hf9 Ye aEg qL hgrow hat fJ hown af hz0 hz1 hz2 k7 hGs gU;go_wp2;go_roundg (n-(y+1))
         case measure=>omega
         case rel=>exact⟨y+1,vp3,_,_,by omega,rfl,by go_num,aGW,HYY.o,wC.o.1,wC.o.2⟩
        ·have aEh:((kk:Int)==(py:Int))=false:=by have hne2:kk≠py:=hne;rw[beq_eq_false_iff_ne];omega
         have aGX:((kk:Int) != (py:Int))=true:=by rw[bne,aEh];rfl
         have HYY:=qH hY;clear hY hne;go_quiet (fail);go_wp2;go_roundg (n-(y+1))
         case measure=>omega
         case rel=>exact⟨y+1,SS,vs2,g3,by omega,rfl,by go_num,aCw,HYY.o,BD.o.1.no ((Mod.refl _ _).drewN _),BD.o.2.drewN _⟩
       ·obtain rfl:y=n:=by omega
        have e1:v.k.ahead.drop y=[]:=drop_of_length_le (by have:=HN.o;omega);rw[e1]at hgo;have HG:=qH (dY hgo);have hyy:¬(y:Int)<y:=by omega
        clear hI hB hgo e1 hgy hyn hly;go_wp2;go_roundg (y-(x+1))
        case measure=>omega
        case rel=>exact⟨x+1,SS,vs2,g2,by omega,rfl,by go_num,aCw,HXX.o,by rw[<-HG.o];exact HI.o.1,HI.o.2⟩
     ·have aEh:((k:Int)==(px:Int))=false:=by have hne2:k≠px:=hne;rw[beq_eq_false_iff_ne];omega
      have aGX:((k:Int) != (px:Int))=true:=by rw[bne,aEh];rfl
      have HXX:=qH hX;clear hX hne;go_quiet (fail);go_wp2;go_roundg (n-(x+1))
      case measure=>omega
      case rel=>exact⟨x+1,DL,vs1,g1,by omega,rfl,by go_num,aFC,HXX.o,HI4.o.1.no ((Mod.refl _ _).drewN _),HI4.o.2.drewN _⟩
    ·obtain rfl:x=n:=by omega
     have e1:v.k.ahead.drop x=[]:=drop_of_length_le (by have:=HN.o;omega);rw[e1]at hgo;have HG:=qH (dY hgo);have hxx:¬(x:Int)<x:=by omega
     clear hI hB hgo e1 hgk hxn hlt;go_wp2;go_end0;exact⟨rfl,DL,vs1,by rw[<-HG.o];exact HI.o.1⟩
  ·cases hM
def D5:Enc Int:=⟨3,1,fun x=>[.int .i64 x],fun _=>rfl⟩
theorem D5.cell(h:Row D5 w (.slice (some ⟨g,0,none⟩) n cap) xs)(hx:xs[i]?=some x):w.cell? ⟨g,i,none⟩=some (.int .i64 x):=by
 have:=h.cell i 0 hx (u:=.int .i64 x) rfl;have e:i*D5.c+0=i:=by show i*1+0=i;omega
 rwa [e]at this
theorem D5.put(h:Row D5 w (.slice (some ⟨g,0,none⟩) n cap) xs)(y:Int)(hx:xs[i]?=some x):Row D5 (w.setCell ⟨g,i,none⟩ (.int .i64 y)) (.slice (some ⟨g,0,none⟩) n cap) (xs.set i y):=by
 have:=h.put i 0 hx (x':=y) (u:=.int .i64 y) (by decide) rfl;have e:i*D5.c+0=i:=by show i*1+0=i;omega
 rwa [e]at this
theorem WB(a:List UInt8):(⟨a.toArray⟩:ByteArray).toList.isEmpty=a.isEmpty:=by
 rw[toList_data]
theorem UD(w:World)(s:M2.Stp):Calls prog 145 #[.agg #[.int .i64 s.fr,.int .i64 s.tt,.int .i64 s.l,.string ⟨s.s0.toArray⟩,.string ⟨s.s1.toArray⟩]] w fun e w'=>e=.returned (.bool (M2.silent s))∧Mod No w w':=by
 have e0:=WB s.s0;have e1:=WB s.s1;unfold M2.silent;generalize (⟨s.s0.toArray⟩:ByteArray)=A at *;generalize (⟨s.s1.toArray⟩:ByteArray)=B at *;have HM:Hd (∀o,Mod No w (w.alloc o)):=fun o=>(Mod.refl _ _).alloc o
 have HB:=qH e1;clear e1
 cases hb:s.s0.isEmpty with
 | false=>
  rw[hb]at e0;have e2:¬A.toList=[]:=fun e=>by rw[e]at e0;cases e0
  go_enter func145,ntmps145;go_wp2;go_ret;exact⟨rfl,HM.o _⟩
 | true=>
  rw[hb]at e0;have e2:A.toList=[]:=by simpa using e0
  go_enter func145,ntmps145;go_wp2;go_ret;exact⟨by rw[<-HB.o];rfl,HM.o _⟩
theorem Xj{f:Nat}(h:Af on steps (f+1) round ow far=some R):∃Ie rY gr,bf on round steps 0 ow far false=some (Ie,rY,gr)∧((gr=true∧Af on steps f (round+1) Ie rY=some R)∨(gr=false∧Ie=R)):=by
 rw[Af]at h;split at h
 ·cases h
 ·rename_i Ie rY gr hr;refine⟨Ie,rY,gr,hr,?_⟩
  cases gr with
  | true=>exact Or.inl ⟨rfl,by simpa using h⟩
  | false=>exact Or.inr ⟨rfl,by simpa using h⟩
theorem Ls{s:M2.Stp}{gr:Bool}{R:List Int × List Nat × Bool}(hs:steps[i]?=some s)(h:bf on round (steps.drop i) i ow far gr=some R):∃o ft ff,on[s.tt]?=some o∧far[s.tt]?=some ft∧far[s.fr]?=some ff∧((ff=0∧((round=1∧M2.silent s=false∧0<=o)∨(1<round∧ft=round-1))∧bf on round (steps.drop (i+1)) (i+1) (ow.set s.fr (i:Int)) (far.set s.fr round) true=some R)∨(¬(ff=0∧((round=1∧M2.silent s=false∧0<=o)∨(1<round∧ft=round-1)))∧bf on round (steps.drop (i+1)) (i+1) ow far gr=some R)):=by
 obtain⟨h1,h2⟩:=bU hs;rw[kJ h1,h2,bf]at h;split at h
 ·rename_i o ft ff ho hft hff;refine⟨o,ft,ff,ho,hft,hff,?_⟩
  dsimp only at h
  split at h
  ·rename_i hc;refine Or.inl ?_;simp only[Bool.and_eq_true,Bool.or_eq_true,decide_eq_true_eq,Bool.not_eq_true']at hc;refine⟨hc.1,?_,h⟩;rcases hc.2 with h3 | h3
   ·exact Or.inl ⟨h3.1.1,h3.1.2,h3.2⟩
   ·exact Or.inr h3
  ·rename_i hc;refine Or.inr ⟨fun hn=>hc ?_,h⟩;simp only[Bool.and_eq_true,Bool.or_eq_true,decide_eq_true_eq,Bool.not_eq_true'];refine⟨hn.1,?_⟩;rcases hn.2 with h3 | h3
   ·exact Or.inl ⟨⟨h3.1,h3.2.1⟩,h3.2.2⟩
   ·exact Or.inr h3
 ·cases h
structure OT(w:World)(ow:List Int)(far:List Nat)(np:Nat)(wr:World):Prop where
 on:Row D5 wr (.slice (some ⟨w.heap.size,0,none⟩) np np) ow
 fa:Row dh wr (.slice (some ⟨w.heap.size+1,0,none⟩) np np) far
 md:Mod No w wr
theorem OT.no{wr':World}(h:OT w ow far np wr)(hm:Mod No wr wr'):OT w ow far np wr':=⟨h.on.no hm,h.fa.no hm,h.md.no hm⟩
theorem OT.aFD(h:OT w ow far np wr)(y:Int)(hx:ow[i]?=some x):OT w (ow.set i y) far np (wr.setCell ⟨w.heap.size,i,none⟩ (.int .i64 y)):=⟨D5.put h.on y hx,h.fa.other (a:=⟨w.heap.size,i,none⟩) (by simp[Value.ownBlock]) _,h.md.setCell (a:=⟨w.heap.size,i,none⟩) (fun e=>absurd e (by simp)) _⟩
theorem OT.aGY(h:OT w ow far np wr){x:Nat}(y:Nat)(hx:far[i]?=some x):OT w ow (far.set i y) np (wr.setCell ⟨w.heap.size+1,i,none⟩ (.int .i64 y)):=⟨h.on.other (a:=⟨w.heap.size+1,i,none⟩) (by simp[Value.ownBlock]) _,dh.put h.fa y hx,h.md.setCell (a:=⟨w.heap.size+1,i,none⟩) (fun e=>absurd e (by simp)) _⟩
theorem Xk(l:List Nat):l.flatMap dh.f=(l.map (fun(x:Nat)=>(x:Int))).flatMap D5.f:=by
 induction l with
 | nil=>rfl
 | cons a l ih=>rw[flatMap_cons,map_cons,flatMap_cons,ih];rfl
theorem dh.aFE{v:Value}{l:List Nat}(h:Row dh w v l):Row D5 w v (l.map fun(x:Nat)=>(x:Int)):=by
 have h2:w.ownsRow 0 3 1 v l.length (l.flatMap dh.f):=h;show w.ownsRow 0 3 1 v (l.map _).length _;rw[length_map,<-Xk];exact h2
theorem aAL(np i:Nat)(hi:i<np):(replicate i (-1:Int)++replicate (np-i) 0).set i (-1)=replicate (i+1) (-1)++replicate (np-(i+1)) 0:=by
 rw[set_append_right _ _ (by simp),length_replicate,Nat.sub_self,show np-i=(np-(i+1))+1 by omega,replicate_succ,set_cons_zero,replicate_succ',append_assoc];rfl
theorem Lu(w:World)(v:M2.View)(base G:Nat)(ka kw kh kd vp c5 vn vs c8 vo:Value)(g:M3.Gr)(h:NG v base G ka kw kh kd vp c5 vn vs c8 vo g.pairs g.nums g.steps w)(on:List Int)(hon:Row D5 w vo on)(hol:on.length=g.pairs.length)(hnp:g.pairs.length<=100000)(hns:g.steps.length<=1000000000)(hov:∀x∈on,-1<=x∧x<=10000000000)(hM:IX g.pairs.length g.steps on=some R):Calls prog 129 #[.pointer (some ⟨G,0,none⟩)] w fun e w'=>Mod No w w'∧∃u,e=.returned u∧Row D5 w' u R∧(∀q,u.ownBlock=some q->w.heap.size<=q):=by
 obtain⟨np,QT⟩:=eX g.pairs.length;obtain⟨ns,aCx⟩:=eX g.steps.length;obtain⟨pA,pC,BN,-,-⟩:=h.pr.open QT.symm;obtain⟨sA,sC,evs,-,-⟩:=h.sp.open aCx.symm;obtain⟨oA,oC,Xl,-,-⟩:=hon.open (n:=np) (by omega);rw[<-QT]at hM hnp hol;rw[<-aCx]at hns;have HB:=qH (a3 h.blk h.sp hon);have HE:=qH (a3 BN evs Xl);have HL:=qH (a2 aCx hol);have HM:Hd (Af on g.steps 10000 1 (replicate np (-1)) (replicate np 0)=some R):=hM;have HOV:=qH hov;have hmk:=iO np (by omega);have k4:=h.blk.cell 4 rfl;have K4:=h.blk.aS 4 rfl;rw[BN]at k4 K4;have aEd:¬G=w.heap.size:=by have:=h.blk.lt;omega
 clear h hon hM hol hov BN evs Xl QT aCx;go_enter func129,ntmps129;go_wp2_with fail;clear k4 K4 hmk;have HI0:Hd (∀A B,A=Obj.cells (Array.replicate np (.int .i64 0)) 3->B=Obj.cells (Array.replicate np (.int .i64 0)) 3->OT w (replicate 0 (-1)++replicate (np-0) 0) (replicate np 0) np ((w.alloc A).alloc B)):=by
  intro A B hA hB;subst hA hB;have e:((replicate np (.int .i64 0)).toArray:Array Value)=Array.replicate np (.int .i64 0):=by simp
  have b0:aG ((w.alloc (.cells (Array.replicate np (.int .i64 0)) 3)).alloc (.cells (Array.replicate np (.int .i64 0)) 3)) w.heap.size ((replicate np (0:Nat)).flatMap dh.f) 3:=by rw[jL];unfold aG;rw[e];exact gq w _ _
  have b1:aG ((w.alloc (.cells (Array.replicate np (.int .i64 0)) 3)).alloc (.cells (Array.replicate np (.int .i64 0)) 3)) (w.heap.size+1) ((replicate np (0:Nat)).flatMap dh.f) 3:=by rw[jL];unfold aG;rw[e];exact fE w _ _
  have r0:=Row.of_block (E:=dh) b0 (by simp;unfold maxLen;omega);have r1:=Row.of_block (E:=dh) b1 (by simp;unfold maxLen;omega);rw[length_replicate]at r0 r1;refine⟨?_,r1,((Mod.refl _ _).alloc _).alloc _⟩;have:=dh.aFE r0;simpa using this
 have HI1:=HI0.o _ _ rfl rfl;clear HI0;generalize (w.alloc (.cells (Array.replicate np (.int .i64 0)) 3)).alloc (.cells (Array.replicate np (.int .i64 0)) 3)=W0 at HI1 ⊢;have HI1:=qH HI1;go_loopg [26] np (fun gh v26 wr=>∃i:Nat,i<=np∧gh=np-i∧v26=.int .i64 i∧OT w (replicate i (-1)++replicate (np-i) 0) (replicate np 0) np wr)
 case atStart=>exact⟨0,by omega,by omega,rfl,HI1.o⟩
 case round=>
  clear HI1;obtain⟨i,hin,hgk,rfl,hI⟩:=hrel;have HI:=qH hI;by_cases hlt:i<np
  ·have hx:(replicate i (-1:Int)++replicate (np-i) 0)[i]?=some 0:=by rw[mW (by simp),length_replicate,Nat.sub_self,getElem?_replicate,aP (by omega)]
   have cx:=D5.cell hI.on hx;have fx:=hI.on.free i;have HI2:Hd (OT w (replicate (i+1) (-1)++replicate (np-(i+1)) 0) (replicate np 0) np (wr.setCell ⟨w.heap.size,i,none⟩ (.int .i64 (-1)))):=by
    have h:=hI.aFD (-1) hx;rw[aAL np i hlt]at h;exact h
   have hii:(i:Int)<np:=by omega
   clear hI hx;go_wp2;go_roundg (np-(i+1))
   case measure=>omega
   case rel=>exact⟨i+1,by omega,rfl,by go_num,HI2.o⟩
  ·obtain rfl:i=np:=by omega
   have HI2:Hd (OT w (replicate i (-1)) (replicate i 0) i wr):=by have h:=hI;simp at h;exact h
   have hii:¬(i:Int)<i:=by omega
   clear hI HI hgk hin hlt;go_wp2_with fail;go_loopg [6,7] 10001 (fun gh v6 v7 wr=>∃(b:Bool) (round:Nat) (ow:List Int) (far:List Nat),v6=.bool b∧v7=.int .i64 round∧1<=round∧round+gh<=10002∧ow.length=i∧far.length=i∧(∀u∈far,u<=10002)∧OT w ow far i wr∧((b=true∧∃f,gh=f+1∧Af on g.steps f round ow far=some R)∨(b=false∧ow=R)))
   case atStart=>exact⟨true,1,_,_,rfl,rfl,by omega,by omega,by simp,by simp,fun u hu=>(by rw[eq_of_mem_replicate hu];omega),HI2.o,Or.inl ⟨rfl,10000,rfl,HM.o⟩⟩
   case round=>
    clear HI2 HM;obtain⟨b,round,ow,far,rfl,rfl,hr1,hrg,hol,hfl,hfv,hI,hb⟩:=hrel;have HI:=qH (a4 hI hol hfl hfv);rcases hb with ⟨rfl,f,hgf,hall⟩ | ⟨rfl,rfl⟩
    ·match f,hgf,hall with
     | 0,hgf,hall=>cases hall
     | f+1,hgf,hall=>
      obtain⟨Ie,rY,UE,hR,hend⟩:=Xj hall;have HR:Hd (bf on round (g.steps.drop 0) 0 ow far false=some (Ie,rY,UE)):=hR;have ny:=qH hend;have k7:=(HB.o.1.mod hI.md (fun x=>x)).cell 7 rfl;rw[HE.o.2.1]at k7;clear hI hall hR hend hol hfl hfv;go_wp2_with fail;clear k7;go_loopg [6,41] ns (fun gh v6 v41 wr=>∃(j:Nat) (gr:Bool) (ow:List Int) (far:List Nat),j<=ns∧gh=ns-j∧v41=.int .i64 j∧v6=.bool gr∧bf on round (g.steps.drop j) j ow far gr=some (Ie,rY,UE)∧(OT w ow far i wr∧ow.length=i∧far.length=i∧∀u∈far,u<=10002))
      case atStart=>exact⟨0,false,ow,far,by omega,by omega,rfl,rfl,HR.o,HI.o⟩
      case round=>
       clear HI HR;obtain⟨j,gr,ow,far,hjn,hgj,rfl,rfl,hgo,hI⟩:=hrel;have HI:=qH hI;by_cases hlj:j<ns
       ·obtain⟨s,hs⟩:∃s,g.steps[j]?=some s:=⟨g.steps[j]'(by have:=HL.o.1;omega),bG _⟩;obtain⟨o,ft,ff,ho,hft,hff,hcase⟩:=Ls hs hgo;have hti:s.tt<i:=by have:=(bU hft).1;omega
        have hfi:s.fr<i:=by have:=(bU hff).1;omega
        have hob:=HOV.o o (iI ho);have aIa:=hI.2.2.2 ft (iI hft);have aIb:=hI.2.2.2 ff (iI hff);have hrs:=HB.o.2.1.no hI.1.md;rw[HE.o.2.1]at hrs;obtain⟨gS,hgS⟩:∃q,sA=some ⟨q,0,none⟩:=by
         obtain⟨g2,c2,h2,-⟩:=HB.o.2.1.form (by have:=HL.o.1;omega);rw[HE.o.2.1]at h2;injection h2 with h2 _;exact⟨g2,h2⟩
        obtain⟨gO,hgO⟩:∃q,oA=some ⟨q,0,none⟩:=by
         obtain⟨g2,c2,h2,-⟩:=HB.o.2.2.form (by have:=HL.o.2;omega);rw[HE.o.2.2]at h2;injection h2 with h2 _;exact⟨g2,h2⟩
        subst hgS hgO;have s0:wr.cell? ⟨gS,j*5,none⟩=some (.int .i64 s.fr):=hrs.cell j 0 hs rfl;have s1:wr.cell? ⟨gS,j*5+1,none⟩=some (.int .i64 s.tt):=hrs.cell j 1 hs rfl;have s2:wr.cell? ⟨gS,j*5+2,none⟩=some (.int .i64 s.l):=hrs.cell j 2 hs rfl;have s3:wr.cell? ⟨gS,j*5+3,none⟩=some (.string ⟨s.s0.toArray⟩):=hrs.cell j 3 hs rfl;have s4:wr.cell? ⟨gS,j*5+4,none⟩=some (.string ⟨s.s1.toArray⟩):=hrs.cell j 4 hs rfl;have H96:=qH fun wx=>UD wx s
        generalize (⟨s.s0.toArray⟩:ByteArray)=A0 at s3 H96;generalize (⟨s.s1.toArray⟩:ByteArray)=A1 at s4 H96;have HC:=qH hcase;have HX:=qH (a3 ho hft hff);generalize M2.silent s=sil at HC H96;have hji:(j:Int)<ns:=by omega
        obtain⟨FR,hFR⟩:=eX s.fr;obtain⟨TT,IQ⟩:=eX s.tt;rw[<-hFR]at s0 H96 HC HX hfi;rw[<-IQ]at s1 H96 HX hti;have HP:Hd (∀o,o=Obj.cells #[.int .i64 FR,.int .i64 TT,.int .i64 s.l,.string A0,.string A1] 225->(OT w ow far i (wr.alloc o)∧ow.length=i∧far.length=i∧∀u∈far,u<=10002)∧aG (wr.alloc o) wr.heap.size [.int .i64 FR,.int .i64 TT,.int .i64 s.l,.string A0,.string A1] 225):=fun o ho=>⟨⟨hI.1.no ((Mod.refl _ _).alloc _),hI.2⟩,by subst ho;exact heap_alloc_new wr _⟩
        clear hI hrs hs hgo ho hft hff hcase hFR IQ HI;go_wp2_with fail;have HP:=HP.o _ rfl;generalize wr.alloc (.cells #[.int .i64 FR,.int .i64 TT,.int .i64 s.l,.string A0,.string A1] 225)=W2 at HP ⊢;generalize wr.heap.size=P at HP ⊢;have HP:=qH HP;clear s0 s1 s2 s3 s4;have htt:(TT:Int)<i:=by omega
        have aIc:(FR:Int)<i:=by omega
        go_cut [10,41] from 41 to 98 (fun s10 s41 wc=>s41=.int .i64 j∧s10=.bool (decide (round=1)&&(!sil)&&decide (0<=o))∧Mod No W2 wc)
        case first=>
         have hne:Nonempty (After W2):=⟨⟨W2,Mod.refl _ _⟩⟩;have p0:=fun(x:After W2)=>(HP.o.2.mod x.property (fun y=>y)).cell 0 rfl
         have p1:=fun(x:After W2)=>(HP.o.2.mod x.property (fun y=>y)).cell 1 rfl
         have p2:=fun(x:After W2)=>(HP.o.2.mod x.property (fun y=>y)).cell 2 rfl
         have p3:=fun(x:After W2)=>(HP.o.2.mod x.property (fun y=>y)).cell 3 rfl
         have p4:=fun(x:After W2)=>(HP.o.2.mod x.property (fun y=>y)).cell 4 rfl
         have g9:∀x:After W2,x.val.cell? ⟨G,9,none⟩=some (.slice (some ⟨gO,0,none⟩) i oC):=fun x=>by
          have h:=((HB.o.1.mod HP.o.1.1.md (fun y=>y)).mod x.property (fun y=>y)).cell 9 rfl;rw[HE.o.2.2]at h;exact h
         have co:∀x:After W2,x.val.cell? ⟨gO,TT,none⟩=some (.int .i64 o):=fun x=>by
          have h:=(HB.o.2.2.no HP.o.1.1.md).no x.property;rw[HE.o.2.2]at h;exact D5.cell h HX.o.1
         by_cases hr:round=1
         ·have hrb:((round:Int)==1)=true:=by rw[hr];rfl
          have HRR:=qH hr;clear hr
          cases sil with
          | true=>
           refine dw (by kernel_rfl) (by kernel_rfl) ?_;repeat (go_big_quiet_step (exact Calls.calm (H96.o _)))
           refine wpQuiet_nil ?_;rintro _ ⟨X,rfl⟩;go_wp2_with fail;go_meet;exact⟨rfl,by simp,X.property⟩
          | false=>
           refine dw (by kernel_rfl) (by kernel_rfl) ?_;repeat (go_big_quiet_step (exact Calls.calm (H96.o _)))
           refine wpQuiet_nil ?_;rintro _ ⟨X,rfl⟩;go_wp2_with fail;go_meet;exact⟨rfl,by simp[HRR.o],X.property⟩
         ·have hrb:((round:Int)==1)=false:=by rw[beq_eq_false_iff_ne];omega
          refine dw (by kernel_rfl) (by kernel_rfl) ?_;repeat (go_big_quiet_step (exact Calls.calm (H96.o _)))
          refine wpQuiet_nil ?_;rintro _ ⟨X,rfl⟩;go_wp2_with fail;go_meet;exact⟨rfl,by simp[hr],X.property⟩
        case rest=>
         obtain⟨rfl,rfl,mc⟩:=hcut;have HP2:Hd ((OT w ow far i wc∧ow.length=i∧far.length=i∧∀u∈far,u<=10002)∧aG wc P [.int .i64 FR,.int .i64 TT,.int .i64 s.l,.string A0,.string A1] 225):=⟨⟨HP.o.1.1.no mc,HP.o.1.2⟩,HP.o.2.mod mc (fun x=>x)⟩;obtain⟨T,hT⟩:=eX (decide (round=1)&&(!sil)&&decide (0<=o));rw[<-hT];have Xm:Hd (T=true↔(round=1∧sil=false∧0<=o)):=qH <| by
          rw[hT];simp[and_assoc]
         have p0:=HP2.o.2.cell 0 rfl;have p1:=HP2.o.2.cell 1 rfl;have cT:=dh.cell HP2.o.1.1.fa HX.o.2.1;have cF:=dh.cell HP2.o.1.1.fa HX.o.2.2;have fF:=HP2.o.1.1.fa.free FR;obtain⟨ox,hox⟩:∃ox,ow[FR]?=some ox:=⟨ow[FR]'(by rw[HP2.o.1.2.1];exact hfi),bG _⟩;have HOX:=qH hox;have hF2:=HP2.o.1.1.aGY round HX.o.2.2;have cO:=D5.cell hF2.on hox;have fO:=hF2.on.free FR;have P5:=qH (hF2.aFD (j:Int) hox);have HFV:Hd (∀u∈far.set FR round,u<=10002):=fun u hu=>by
          rcases mem_or_eq_of_mem_set hu with h | h
          ·exact HP2.o.1.2.2.2 u h
          ·omega
         have p0':(wc.setCell ⟨w.heap.size+1,FR,none⟩ (.int .i64 round)).cell? ⟨P,0,none⟩=some (.int .i64 FR):=(HP2.o.2.other (a:=⟨w.heap.size+1,FR,none⟩) (fun e=>HP2.o.2.apart HP2.o.1.1.fa (by decide) (by rw[e];rfl)) _).cell 0 rfl;clear hT mc HP H96 hF2 hox hob;have hr0:(1:Int)<=(round:Int):=by omega
         have hrr:round<=10002:=by omega
         rcases(show (¬1<round)∨(1<round∧ft=round-1)∨(1<round∧ft≠round-1) by omega)with hnb | hnb | hnb
         ·have n1:¬(1:Int)<(round:Int):=by omega
          rcases(show ff=0∨ff≠0 by omega)with hfb | hfb
          ·have f1:((ff:Int)==0)=true:=by rw[beq_iff_eq];omega
           cases T with
           | true=>
            have jh:Hd (bf on round (g.steps.drop (j+1)) (j+1) (ow.set FR (j:Int)) (far.set FR round) true=some (Ie,rY,UE)):=by
             rcases HC.o with h | h
             ·exact h.2.2
             ·exact absurd ⟨hfb,Or.inl (Xm.o.1 rfl)⟩ h.1
            clear hnb hfb;have HN:=qH jh.o;go_wp2;go_roundg (ns-(j+1))
            case measure=>omega
            case rel=>exact⟨j+1,true,_,_,by omega,rfl,by go_num,rfl,HN.o,P5.o,by rw[length_set];exact HP2.o.1.2.1,by rw[length_set];exact HP2.o.1.2.2.1,HFV.o⟩
           | false=>
            have jh:Hd (bf on round (g.steps.drop (j+1)) (j+1) ow far gr=some (Ie,rY,UE)):=by
             rcases HC.o with h | h
             ·rcases h.2.1 with h3 | h3
              ·exact absurd (Xm.o.2 h3) (by simp)
              ·omega
             ·exact h.2
            clear hnb hfb;have HN:=qH jh.o;go_wp2;go_roundg (ns-(j+1))
            case measure=>omega
            case rel=>exact⟨j+1,gr,_,_,by omega,rfl,by go_num,rfl,HN.o,HP2.o.1⟩
          ·have f1:((ff:Int)==0)=false:=by rw[beq_eq_false_iff_ne];omega
           cases T with
           | true=>
            have jh:Hd (bf on round (g.steps.drop (j+1)) (j+1) ow far gr=some (Ie,rY,UE)):=by
             rcases HC.o with h | h
             ·exact absurd h.1 hfb
             ·exact h.2
            clear hnb hfb;have HN:=qH jh.o;go_wp2;go_roundg (ns-(j+1))
            case measure=>omega
            case rel=>exact⟨j+1,gr,_,_,by omega,rfl,by go_num,rfl,HN.o,HP2.o.1⟩
           | false=>
            have jh:Hd (bf on round (g.steps.drop (j+1)) (j+1) ow far gr=some (Ie,rY,UE)):=by
             rcases HC.o with h | h
             ·exact absurd h.1 hfb
             ·exact h.2
            clear hnb hfb;have HN:=qH jh.o;go_wp2;go_roundg (ns-(j+1))
            case measure=>omega
            case rel=>exact⟨j+1,gr,_,_,by omega,rfl,by go_num,rfl,HN.o,HP2.o.1⟩
         ·have n1:(1:Int)<(round:Int):=by omega
          have n2:((ft:Int)==(round:Int)-1)=true:=by rw[beq_iff_eq];omega
          rcases(show ff=0∨ff≠0 by omega)with hfb | hfb
          ·have f1:((ff:Int)==0)=true:=by rw[beq_iff_eq];omega
           cases T with
           | true=>
            have jh:Hd (bf on round (g.steps.drop (j+1)) (j+1) (ow.set FR (j:Int)) (far.set FR round) true=some (Ie,rY,UE)):=by
             rcases HC.o with h | h
             ·exact h.2.2
             ·exact absurd ⟨hfb,Or.inl (Xm.o.1 rfl)⟩ h.1
            clear hnb hfb;have HN:=qH jh.o;go_wp2;go_roundg (ns-(j+1))
            case measure=>omega
            case rel=>exact⟨j+1,true,_,_,by omega,rfl,by go_num,rfl,HN.o,P5.o,by rw[length_set];exact HP2.o.1.2.1,by rw[length_set];exact HP2.o.1.2.2.1,HFV.o⟩
           | false=>
            have jh:Hd (bf on round (g.steps.drop (j+1)) (j+1) (ow.set FR (j:Int)) (far.set FR round) true=some (Ie,rY,UE)):=by
             rcases HC.o with h | h
             ·exact h.2.2
             ·exact absurd ⟨hfb,Or.inr hnb⟩ h.1
            clear hnb hfb;have HN:=qH jh.o;go_wp2;go_roundg (ns-(j+1))
            case measure=>omega
            case rel=>exact⟨j+1,true,_,_,by omega,rfl,by go_num,rfl,HN.o,P5.o,by rw[length_set];exact HP2.o.1.2.1,by rw[length_set];exact HP2.o.1.2.2.1,HFV.o⟩
          ·have f1:((ff:Int)==0)=false:=by rw[beq_eq_false_iff_ne];omega
           cases T with
           | true=>
            have jh:Hd (bf on round (g.steps.drop (j+1)) (j+1) ow far gr=some (Ie,rY,UE)):=by
             rcases HC.o with h | h
             ·exact absurd h.1 hfb
             ·exact h.2
            clear hnb hfb;have HN:=qH jh.o;go_wp2;go_roundg (ns-(j+1))
            case measure=>omega
            case rel=>exact⟨j+1,gr,_,_,by omega,rfl,by go_num,rfl,HN.o,HP2.o.1⟩
           | false=>
            have jh:Hd (bf on round (g.steps.drop (j+1)) (j+1) ow far gr=some (Ie,rY,UE)):=by
             rcases HC.o with h | h
             ·exact absurd h.1 hfb
             ·exact h.2
            clear hnb hfb;have HN:=qH jh.o;go_wp2;go_roundg (ns-(j+1))
            case measure=>omega
            case rel=>exact⟨j+1,gr,_,_,by omega,rfl,by go_num,rfl,HN.o,HP2.o.1⟩
         ·have n1:(1:Int)<(round:Int):=by omega
          have n2:((ft:Int)==(round:Int)-1)=false:=by rw[beq_eq_false_iff_ne];omega
          rcases(show ff=0∨ff≠0 by omega)with hfb | hfb
          ·have f1:((ff:Int)==0)=true:=by rw[beq_iff_eq];omega
           cases T with
           | true=>
            have jh:Hd (bf on round (g.steps.drop (j+1)) (j+1) (ow.set FR (j:Int)) (far.set FR round) true=some (Ie,rY,UE)):=by
             rcases HC.o with h | h
             ·exact h.2.2
             ·exact absurd ⟨hfb,Or.inl (Xm.o.1 rfl)⟩ h.1
            clear hnb hfb;have HN:=qH jh.o;go_wp2;go_roundg (ns-(j+1))
            case measure=>omega
            case rel=>exact⟨j+1,true,_,_,by omega,rfl,by go_num,rfl,HN.o,P5.o,by rw[length_set];exact HP2.o.1.2.1,by rw[length_set];exact HP2.o.1.2.2.1,HFV.o⟩
           | false=>
            have jh:Hd (bf on round (g.steps.drop (j+1)) (j+1) ow far gr=some (Ie,rY,UE)):=by
             rcases HC.o with h | h
             ·rcases h.2.1 with h3 | h3
              ·exact absurd (Xm.o.2 h3) (by simp)
              ·omega
             ·exact h.2
            clear hnb hfb;have HN:=qH jh.o;go_wp2;go_roundg (ns-(j+1))
            case measure=>omega
            case rel=>exact⟨j+1,gr,_,_,by omega,rfl,by go_num,rfl,HN.o,HP2.o.1⟩
          ·have f1:((ff:Int)==0)=false:=by rw[beq_eq_false_iff_ne];omega
           cases T with
           | true=>
            have jh:Hd (bf on round (g.steps.drop (j+1)) (j+1) ow far gr=some (Ie,rY,UE)):=by
             rcases HC.o with h | h
             ·exact absurd h.1 hfb
             ·exact h.2
            clear hnb hfb;have HN:=qH jh.o;go_wp2;go_roundg (ns-(j+1))
            case measure=>omega
            case rel=>exact⟨j+1,gr,_,_,by omega,rfl,by go_num,rfl,HN.o,HP2.o.1⟩
           | false=>
            have jh:Hd (bf on round (g.steps.drop (j+1)) (j+1) ow far gr=some (Ie,rY,UE)):=by
             rcases HC.o with h | h
             ·exact absurd h.1 hfb
             ·exact h.2
            clear hnb hfb;have HN:=qH jh.o;go_wp2;go_roundg (ns-(j+1))
            case measure=>omega
            case rel=>exact⟨j+1,gr,_,_,by omega,rfl,by go_num,rfl,HN.o,HP2.o.1⟩
       ·obtain rfl:j=ns:=by omega
        have e1:g.steps.drop j=[]:=drop_of_length_le (by have:=HL.o.1;omega);rw[e1,bf]at hgo;have HG:Hd (ow=Ie∧far=rY∧gr=UE):=by
         have h:=hgo;cases h;exact⟨rfl,rfl,rfl⟩
        have hjj:¬(j:Int)<j:=by omega
        clear hI hgo e1 hgj hjn hlj;go_wp2;go_roundg (f+1)
        case measure=>omega
        case rel=>
         refine⟨UE,round+1,Ie,rY,by rw[HG.o.2.2],by go_num,by omega,by omega,by rw[<-HG.o.1];exact HI.o.2.1,by rw[<-HG.o.2.1];exact HI.o.2.2.1,by rw[<-HG.o.2.1];exact HI.o.2.2.2,by rw[<-HG.o.1,<-HG.o.2.1];exact HI.o.1,?_⟩;rcases ny.o with ⟨h1,h2⟩ | h
         ·exact Or.inl ⟨h1,f,rfl,h2⟩
         ·exact Or.inr h
    ·clear hI;go_wp2;go_ret;exact⟨HI.o.1.md,_,rfl,HI.o.1.on,fun q hq=>by cases hq;exact dH _⟩
end Go.Proofs.YtoebidlghdidoaaGreatDoor
