import Derived.Test.YtoebidlghdidoaaGreatDoorAV
set_option maxHeartbeats 2000000
set_option maxRecDepth 100000
namespace Go.Proofs.YtoebidlghdidoaaGreatDoor
open M3 M2 aI Tryz List
section
open Go.RowKit
attribute [local go_sem ↓] Go.wp_at_zero Go.wp_at_succ
variable {v:M2.View} {su:bP} {s:M2.Apart} {k:Nat} {r:aI.R4} {b:Bool} {R:Bool × M2.Apart}
theorem Tm{f:Nat}{R:M2.Apart}(h:nT v su (f+1) s=some R):∃b s2,Yh v su v.k.ahead 0 s false=some (b,s2)∧((b=true∧nT v su f s2=some R)∨(b=false∧s2=R)):=by
 rw[nT]at h;split at h
 ·cases h
 ·rename_i b s2 hc;refine⟨b,s2,hc,?_⟩
  cases b with
  | true=>exact Or.inl ⟨rfl,by simpa using h⟩
  | false=>exact Or.inr ⟨rfl,by simpa using h⟩
theorem aAE{rs:List aI.R4}(hr:rs[k]?=some r)(h:Yh v su (rs.drop k) k s b=some R):∃b2 s2,YS v su k r 4 s b=some (b2,s2)∧Yh v su (rs.drop (k+1)) (k+1) s2 b2=some R:=by
 obtain⟨h1,h2⟩:=bU hr;rw[kJ h1,h2,Yh]at h;split at h
 ·cases h
 ·rename_i b2 s2 hl;exact⟨b2,s2,hl,h⟩
theorem aAF{n:Nat}(h:YS v su k r (n+1) s b=some R):∃longer x s2,r.get (3-n)=some longer∧qp v su longer (3-n) k 4 0 s false=some (x,s2)∧YS v su k r n s2 (b||x)=some R:=by
 rw[YS]at h;split at h
 ·cases h
 ·rename_i longer hg;split at h
  ·cases h
  ·rename_i x s2 hc;exact⟨longer,x,s2,hg,hc,h⟩
def Qr:List (List Bool):=[aX,aX,aX,aX]
theorem aJP:(prog.info? 251).map (fun i=>(i.zero,i.size,i.bytes))=some (some (.agg (ApE.f Qr).toArray),16,16):=by kernel_rfl
theorem Xd:ApE.f Qr=replicate 16 (.bool false):=rfl
theorem aAG(n:Nat):(replicate n Qr).flatMap ApE.f=replicate (n*16) (.bool false):=by
 induction n with
 | zero=>rfl
 | succ n ih=>rw[replicate_succ,flatMap_cons,ih,Xd,replicate_append_replicate,Nat.succ_mul,Nat.add_comm]
def Yb(n:Nat):Array Value:=(replicate (n*16) (.bool false)).toArray
theorem aCn(n:Nat):madeCells (Value.agg (ApE.f Qr).toArray).cells (n*16)=Yb n:=by
 have e:(Value.agg (ApE.f Qr).toArray).cells=Array.replicate 16 (.bool false):=rfl;rw[e];unfold madeCells Yb;apply Array.ext';rw[Array.toList_map];apply ext_getElem?;intro j;rw[getElem?_map,getElem?_replicate];by_cases hj:j<n*16
 ·have hm:j%16<16:=Nat.mod_lt _ (by omega);rw[aP hj];simp[hj];rw[getElem!_pos (Array.replicate 16 (Value.bool false)) (j%16) (by rw[Array.size_replicate];exact hm)];simp
 ·rw[aU hj];simp[hj]
theorem Tn(n:Nat)(hn:n<=1000)(w:World):(Instr.makeSlice 148 (I n) (I n)).run prog w=.ok (Jn w.heap.size n n) (w.alloc (.cells (Yb n) 251)):=by
 obtain⟨i0,af,hz0,hz1,hz2⟩:=info_parts aJP;have hr:=run_make (P:=prog) w 148 251 i0 _ underlying148 af hz0 .i64 .i64 n n (by omega) (Int.le_refl _) (by rw[hz2];omega) (by omega);rw[Int.toNat_natCast,hz1]at hr;rw[hr,aCn]
structure FA(w:World)(v:M2.View)(su:bP)(ap:M2.Apart)(base O:Nat)(ka kw kh kd vs va:Value)(wr:World):Prop where
 ol:OL v su ap base O ka kw kh kd vs va wr
 md:Mod (fun q=>q=O) w wr
 fs:∀g,va.ownBlock=some g->w.heap.size<=g
theorem FA.no{w:World}{ap:M2.Apart}{base O:Nat}{ka kw kh kd vs va:Value}{wr wr':World}(h:FA w v su ap base O ka kw kh kd vs va wr)(hm:Mod No wr wr'):FA w v su ap base O ka kw kh kd vs va wr':=⟨h.ol.no hm,h.md.no hm,h.fs⟩
theorem xU.zero(n:Nat):xU (replicate n Qr) n:=⟨by simp,fun r hr=>by rw[eq_of_mem_replicate hr];exact⟨rfl,fun q hq=>by simp[Qr]at hq;rw[hq];rfl⟩⟩
theorem Ic(w:World)(v:M2.View)(su:bP)(base O:Nat)(ka kw kh kd vs:Value)(hO:OL v su [] base O ka kw kh kd vs aH w)(hs:Dq su v.k.ahead.length){s1:M2.Apart}(h1:nT v su 1000 (replicate su.length Qr)=some s1):J1 93 #[Jx O 0] w fun e w'=>e=.returned (.tuple #[])∧∃va,FA w v su s1 base O ka kw kh kd vs va w'∧xU s1 v.k.ahead.length:=by
 have hvp:=hO.vp;obtain⟨i,hi⟩:=eX v.k.ahead.length;have hn0:0<i:=by rw[hi,<-hvp.nh];exact hvp.Xa.pos
 have aIU:i<=24:=by rw[hi];exact hvp.n24
 obtain⟨a1,c1,e1,-,-⟩:=hvp.ah.open hi.symm;obtain⟨a5,c5,e5,-,-⟩:=hO.su.open (n:=i) (by rw[hs.len];exact hi.symm);have H77:=qH fun(wx:World) (ap:M2.Apart) (gs:Nat) (cap:Nat) (kind:Nat) (l:Nat) (next:Nat) (b':Bool) (ap':M2.Apart) (hOx:OL v su ap base O ka kw kh kd vs (Jn gs i cap) wx) (hs':xU ap i) (hk:kind<i) (hx:next<i) (hl:l<4) (hM:qp v su kind l next 4 0 ap false=some (b',ap'))=>aAD wx v su ap base O ka kw kh kd vs gs i cap hOx hi (by rw[hi];exact hs) hs' kind l next hk hx hl hM
 have HV:=qH (a2 hvp.ok hi);have HE:=qH e1;have H1:Hd (nT v su 1000 (replicate i Qr)=some s1):=qH <| by
  rw[hi,<-hs.len];exact h1
 have hmk:=Tn i (by omega);have hB:=hO.blk;have o4:=hB.aS 4 rfl;have p4:=hB.cell 4 rfl;rw[e5]at o4 p4;have o5:=hB.aS 5 rfl;have f5:=hB.dQ 5;have HI0:Hd (∀A,A=Obj.cells (Yb i) 251->FA w v su (replicate i Qr) base O ka kw kh kd vs (Jn w.heap.size i i) ((w.alloc A).setCell (J O 5) (Jn w.heap.size i i))):=by
  intro A hA;subst hA;have hm:Mod No w (w.alloc (.cells (Yb i) 251)):=(Mod.refl _ _).alloc _;have h1:=hO.no hm;have hrow:Row ApE (w.alloc (.cells (Yb i) 251)) (Jn w.heap.size i i) (replicate i Qr):=by
   have hb:aG (w.alloc (.cells (Yb i) 251)) w.heap.size ((replicate i Qr).flatMap ApE.f) 251:=by
    rw[aAG];exact heap_alloc_new w _
   have:=Row.of_block (E:=ApE) hb (by simp;unfold maxLen;omega);simpa using this
  have hm2:Mod (fun q=>q=O) (w.alloc (.cells (Yb i) 251)) ((w.alloc (.cells (Yb i) 251)).setCell (J O 5) (Jn w.heap.size i i)):=(Mod.refl (fun q=>q=O) _).setCell (a:=J O 5) (fun _=>rfl) _;have key:∀{α:Type} {E:Enc α} {v:Value} {xs:List α},Row E (w.alloc (.cells (Yb i) 251)) v xs->E.T≠150->Row E ((w.alloc (.cells (Yb i) 251)).setCell (J O 5) (Jn w.heap.size i i)) v xs:=fun hr ht=>hr.mod hm2 (fun g hg e=>h1.blk.apart hr (fun e2=>ht e2.symm) (by rw[hg,e]))
  have hv:=h1.vp;refine⟨⟨h1.blk.set 5 _,⟨hv.ok,hv.Xa,hv.n24,hv.nh,key hv.ah (by decide),key hv.wo (by decide),key hv.hi (by decide),key hv.de (by decide),hv.fa,hv.fw,hv.fh,hv.fd⟩,key h1.su (by decide),key hrow (by decide)⟩,(((Mod.refl _ _).alloc _:Mod (fun q=>q=O) w _)).trans hm2,fun g hg=>by cases hg;exact dH _⟩
 have aGK:¬O=w.heap.size:=by have:=hB.lt;omega
 rw[<-hi];clear hvp hO hs h1 hi e1 e5 hB;go_enter func93,ntmps93;go_wp2_with fail;have HI:Hd (FA w v su (replicate i Qr) base O ka kw kh kd vs (Jn w.heap.size i i) _):=HI0.o _ rfl;have qN:=qH (xU.zero i);generalize (w.alloc (.cells (Yb i) 251)).setCell (J O 5) (Jn w.heap.size i i)=W0 at HI ⊢;have hfs:w.heap.size<=w.heap.size:=dH _;generalize hgs:w.heap.size=gs at HI aGK;rw[hgs]at hfs;obtain⟨cs,hcs⟩:=eX i;have HI:Hd (FA w v su (replicate i Qr) base O ka kw kh kd vs (Jn gs i cs) W0):=by rw[hcs];exact HI.o
 have hfs:w.heap.size<=gs:=by omega
 go_loopg [2] 1001 (fun gh v2 wr=>∃(b:Bool) (s:M2.Apart),v2=.bool b∧FA w v su s base O ka kw kh kd vs (Jn gs i cs) wr∧xU s i∧((b=true∧∃f,gh=f+1∧nT v su f s=some s1)∨(b=false∧s=s1)))
 case atStart=>exact⟨true,_,rfl,HI.o,qN.o,Or.inl ⟨rfl,1000,rfl,H1.o⟩⟩
 case round=>
  obtain⟨b,s,rfl,hI,hsk,hb⟩:=hrel;have HI:=qH hI;have qN:=qH hsk;rcases hb with ⟨rfl,f,hgf,hall⟩ | ⟨rfl,rfl⟩
  ·match f,hgf,hall with
   | 0,hgf,hall=>cases hall
   | f+1,hgf,hall=>
    obtain⟨b2,s2,hK,hend⟩:=Tm hall;have HK:Hd (Yh v su (v.k.ahead.drop 0) 0 s false=some (b2,s2)):=hK;have ny:=qH hend;have o0:=hI.ol.blk.cell 0 rfl;rw[HE.o]at o0;go_wp2_with fail;go_loopg [2,24] i (fun gh v2 v24 wr=>∃(k:Nat) (b:Bool) (s:M2.Apart),k<=i∧gh=i-k∧v24=I k∧v2=.bool b∧FA w v su s base O ka kw kh kd vs (Jn gs i cs) wr∧xU s i∧Yh v su (v.k.ahead.drop k) k s b=some (b2,s2))
    case atStart=>exact⟨0,false,s,by omega,by omega,rfl,rfl,HI.o,qN.o,HK.o⟩
    case round=>
     obtain⟨k,b,s,hki,aGI,rfl,rfl,hI,hsk,hK⟩:=hrel;have HI:=qH hI;have qN:=qH hsk;by_cases hkl:k<i
     ·obtain⟨r,hr⟩:∃r,v.k.ahead[k]?=some r:=⟨v.k.ahead[k]'(by have:=HV.o.2;omega),bG _⟩;obtain⟨b3,s3,hL,hK2⟩:=aAE hr hK;have hra:=hI.ol.vp.ah;rw[HE.o]at hra;obtain⟨ga,hga⟩:∃g,a1=some (J g 0):=by
       obtain⟨g2,c2,h2,-⟩:=hI.ol.vp.ah.form (by have:=HV.o.2;omega);rw[HE.o]at h2;injection h2 with h2 _;exact⟨g2,h2⟩
      subst hga;have r0:wr.cell? (J ga (k*4))=some (I r.a):=hra.cell k 0 hr rfl;have r1:wr.cell? (J ga (k*4+1))=some (I r.b):=hra.cell k 1 hr rfl;have r2:wr.cell? (J ga (k*4+2))=some (I r.c):=hra.cell k 2 hr rfl;have r3:wr.cell? (J ga (k*4+3))=some (I r.d):=hra.cell k 3 hr rfl;have HL:=qH hL;have HK2:=qH hK2;have aEa:Hd (∀l q,r.get l=some q->q<i):=fun l q hq=>by have:=HV.o.1.ent r (iI hr) l q hq;have:=HV.o.2;omega
      have aGJ:(k:Int)<i:=by omega
      have HI1:Hd (FA w v su s base O ka kw kh kd vs (Jn gs i cs) (wr.alloc (.cells #[I r.a,I r.b,I r.c,I r.d] 102))):=HI.o.no ((Mod.refl _ _).alloc _);go_wp2_with fail;generalize wr.alloc (.cells #[I r.a,I r.b,I r.c,I r.d] 102)=W1 at HI1 ⊢;go_loopg [2,30] 4 (fun gh v2 v22 wr=>∃(l:Nat) (b:Bool) (s:M2.Apart),l<=4∧gh=4-l∧v22=I l∧v2=.bool b∧FA w v su s base O ka kw kh kd vs (Jn gs i cs) wr∧xU s i∧YS v su k r gh s b=some (b3,s3))
      case atStart=>exact⟨0,b,s,by omega,rfl,rfl,rfl,HI1.o,qN.o,HL.o⟩
      case round=>
       obtain⟨l,b,s,hl4,hgl,rfl,rfl,hI,hsk,hL⟩:=hrel;have HI:=qH hI;have qN:=qH hsk
       match gk,hgl,hL with
       | 0,hgl,hL=>
        obtain rfl:l=4:=by omega
        have HB:Hd (b=b3∧s=s3):=by
         have h:some (b,s)=some (b3,s3):=hL;cases h;exact⟨rfl,rfl⟩
        have h44:¬((4:Nat):Int)<4:=by omega
        clear hL hI hsk hgl hl4 H77;go_wp2;go_roundg (i-(k+1))
        case measure=>omega
        case rel=>exact⟨k+1,b3,s3,by omega,rfl,by go_num,by rw[HB.o.1],by rw[<-HB.o.2];exact HI.o,by rw[<-HB.o.2];exact qN.o,HK2.o⟩
       | g+1,hgl,hL=>
        obtain⟨longer,x,s4,hget,hc,hL2⟩:=aAF hL;obtain rfl:l=3-g:=by omega
        have hl3:3-g<4:=by omega
        have h77:=H77.o wr s gs cs longer (3-g) k x s4 hI.ol hsk (aEa.o _ _ hget) hkl hl3 hc;have hix:=ixR r (3-g) longer hl3 hget;have HL2:=qH hL2;have yZ:((3-g:Nat):Int)<4:=by omega
        obtain⟨L,hLL⟩:=eX (3-g);rw[<-hLL]at h77 hix yZ hgl hl4 ⊢;clear hI hsk hL hL2 hc hget hLL;go_wp2_with fail;refine h77.mono ?_;rintro e w3 ⟨rfl,ho3,hs3,m3⟩;have HI3:Hd (FA w v su s4 base O ka kw kh kd vs (Jn gs i cs) w3∧xU s4 i):=⟨⟨ho3,HI.o.md.trans' m3 (fun q hq e=>by omega),HI.o.fs⟩,hs3⟩
        cases x with
        | true=>
         have HL3:Hd (YS v su k r g s4 true=some (b3,s3)):=by have h:=HL2.o;rw[Bool.or_true]at h;exact h
         go_wp2;go_roundg g
         case measure=>omega
         case rel=>exact⟨L+1,true,s4,by omega,by omega,by go_num,rfl,HI3.o.1,HI3.o.2,HL3.o⟩
        | false=>
         have HL3:Hd (YS v su k r g s4 b=some (b3,s3)):=by have h:=HL2.o;rw[Bool.or_false]at h;exact h
         go_wp2;go_roundg g
         case measure=>omega
         case rel=>exact⟨L+1,b,s4,by omega,by omega,by go_num,rfl,HI3.o.1,HI3.o.2,HL3.o⟩
     ·obtain rfl:k=i:=by omega
      have e1:v.k.ahead.drop k=[]:=drop_of_length_le (by have:=HV.o.2;omega);rw[e1,Yh]at hK;have HB:Hd (b=b2∧s=s2):=by
       have h:=hK;cases h;exact⟨rfl,rfl⟩
      have hkk:¬(k:Int)<k:=by omega
      go_wp2;go_roundg (f+1)
      case measure=>omega
      case rel=>
       refine⟨b2,s2,by rw[HB.o.1],by rw[<-HB.o.2];exact HI.o,by rw[<-HB.o.2];exact qN.o,?_⟩;rcases ny.o with ⟨h1,h2⟩ | h
       ·exact Or.inl ⟨h1,f,rfl,h2⟩
       ·exact Or.inr h
  ·clear hI hsk H77;go_wp2;go_end0;exact⟨rfl,_,HI.o,qN.o⟩
end
section
open Go.RowKit
variable {b:aK} {k:Nat} {x:Operand} {dst:Option Tmp} {ty:TypeId} {pos:String} {after:Array Edge} {guard:Option (Nat × Bool)} {a:Act} {w:World} {K:Act->World->Prop} {Q:Exit->Act->World->Prop}
def AA(l:List Nat):List Nat:=(l++replicate 24 0).take 24
def AB(l:List (List UInt8)):List (List UInt8):=(l++replicate 24 []).take 24
def nat(n:Nat):Value:=I n
def bc(b:aK):List Value:=(AA b.tc).map nat++(AB b.held).map str
theorem jE(l:List Nat):(AA l).length=24:=by simp[AA]
theorem rW(l:List (List UInt8)):(AB l).length=24:=by simp[AB]
theorem aIK{l:List Nat}(h:l.length=24):AA l=l:=by
 unfold AA;rw[take_append_of_le_length (by omega),take_of_length_le (by omega)]
theorem AO{l:List (List UInt8)}(h:l.length=24):AB l=l:=by
 unfold AB;rw[take_append_of_le_length (by omega),take_of_length_le (by omega)]
theorem jg(b:aK):(bc b).length=48:=by simp[bc,jE,rW]
def Yc:Enc aK:=⟨155,48,bc,jg⟩
theorem aI8:(prog.info? 155).map (fun i=>(i.zero,i.size,i.bytes))=some (some (.agg (bc bJ).toArray),48,576):=by kernel_rfl
theorem aIL:(prog.info? 155).map (·.size)=some 48:=by kernel_rfl
theorem aAH(b:aK):∀v∈bc b,v.oneCell'=true:=by
 intro v hv;rcases mem_append.1 hv with h | h
 ·obtain⟨x,_,rfl⟩:=mem_map.1 h;rfl
 ·obtain⟨x,_,rfl⟩:=mem_map.1 h;rfl
theorem Dt(b:aK):(bc b).toArray.size=48:=by simp[jg]
theorem aAI(b:aK):DV 48 (.agg (bc b).toArray)=true:=by
 unfold DV;rw[Bool.and_eq_true];exact⟨by simp[jg],all_oneCell_toArray (aAH b)⟩
theorem Gw(w:World)(b:aK):pR (w.alloc (.cells (bc b).toArray 155)) w.heap.size 48=true:=mF w _ _ _ (Dt b)
structure qW(b:aK):Prop where
 t:b.tc.length=24
 h:b.held.length=24
theorem aCW(hb:qW b){x:Nat}(hx:b.tc[k]?=some x):(bc b)[k]?=some (I x):=by
 have hk:k<24:=by have:=(bU hx).1;rw[hb.t]at this;exact this
 unfold bc;rw[jG (by simp[jE];exact hk),getElem?_map,aIK hb.t,hx];rfl
theorem xE(hb:qW b){x:List UInt8}(hx:b.held[k]?=some x):(bc b)[24+k]?=some (.string ⟨x.toArray⟩):=by
 unfold bc;rw[mW (by simp[jE]),getElem?_map,length_map,jE,Nat.add_sub_cancel_left,AO hb.h,hx];rfl
theorem aCo(hb:qW b){x:Nat}(hk:k<24):bc { b with tc:=b.tc.set k x }=(bc b).set k (I x):=by
 unfold bc;rw[set_append_left _ _ (by simp[jE];exact hk),aIK (by simp[hb.t]),aIK hb.t];show (b.tc.set k x).map nat++_=_;rw[map_set];rfl
theorem Lr(hb:qW b){x:List UInt8}:bc { b with held:=b.held.set k x }=(bc b).set (24+k) (.string ⟨x.toArray⟩):=by
 unfold bc;rw[set_append_right _ _ (by simp[jE]),length_map,jE,Nat.add_sub_cancel_left,AO (by simp[hb.h]),AO hb.h];show _++(b.held.set k x).map str=_;rw[map_set];rfl
theorem qW.zero:qW bJ:=⟨rfl,rfl⟩
theorem qP{α:Type}[DecidableEq α](P:Program)(d e:Nat)(f:α->Value)(hp:P.plainKey e=true)(heq:∀(a b:α) (w:World),(Op.equalIn (d+1) e (f a) (f b)).run P w=.ok (decide (a=b)) w)(xs ys:List α)(w:World):∀is:List Nat,(∀i∈is,i<xs.length∧i<ys.length)->(Op.eqItems (d+1) e 1 (xs.map f).toArray (ys.map f).toArray is).run P w=.ok (is.all fun i=>xs[i]?==ys[i]?) w
 | [],_=>by simp[Op.eqItems]
 | i::is,h=>by
  obtain⟨h1,h2⟩:=h i (by simp);have p1:=run_part_plain (P:=P) w hp (xs:=(xs.map f).toArray) (off:=i*1) (v:=f xs[i]) (by simp[h1]);have p2:=run_part_plain (P:=P) w hp (xs:=(ys.map f).toArray) (off:=i*1) (v:=f ys[i]) (by simp[h2]);have ih:=qP P d e f hp heq xs ys w is (fun j hj=>h j (by simp[hj]));simp only[Op.eqItems,Sem.run_bind,p1,p2,Result.andThen_ok,heq];rw[all_cons,bG h1,bG h2];by_cases hq:xs[i]=ys[i]
  ·have:(some xs[i]==some ys[i])=true:=by simp[hq]
   simp only[this,decide_eq_true hq,Bool.not_true,Bool.false_eq_true,if_false,Bool.true_and];exact ih
  ·have:(some xs[i]==some ys[i])=false:=by simp[hq]
   simp[this,hq]
theorem aJ3:prog.plainKey 3=true:=by kernel_rfl
theorem aJm:prog.plainKey 9=true:=by kernel_rfl
theorem aJ4:prog.cellsOf 3=1:=by kernel_rfl
theorem aIM:prog.cellsOf 9=1:=by kernel_rfl
theorem aJQ:prog.stoodInHeld 155=false:=by kernel_rfl
theorem aJx:prog.underlying 155=some (.struct (prog.fieldsOf 155)):=by kernel_rfl
theorem aI2 : (prog.fieldsOf 155).toList = [{ name := "toCome", type := 152, offset := 0, embedded := false, tag := "", pkgPath := "rewrite/early", byteOffset := 0 }, { name := "held", type := 153, offset := 24, embedded := false, tag := "", pkgPath := "rewrite/early", byteOffset := 192 }] := by kernel_rfl
theorem Xe(d:Nat)(a b:Nat)(w:World):(Op.equalIn (d+1) 3 (nat a) (nat b)).run prog w=.ok (decide (a=b)) w:=by
 unfold nat;rw[run_equalIn_int w d 3 .i64 .i64 _ _ underlying3,vP]
theorem Jk(d:Nat)(a b:List UInt8)(w:World):(Op.equalIn (d+1) 9 (str a) (str b)).run prog w=.ok (decide (a=b)) w:=by
 unfold str;rw[run_equalIn_string w d 9 _ _ underlying9,toList_data,toList_data];congr 1;rw[Bool.eq_iff_iff];simp
theorem aEb(xs:Array Value)(w:World):(part 152 xs 0).run prog w=.ok (.agg (xs.extract 0 24)) w:=by
 simp[part,isAgg152,sizeOf152]
theorem aEc(xs:Array Value)(w:World):(part 153 xs 24).run prog w=.ok (.agg (xs.extract 24 48)) w:=by
 simp[part,isAgg153,sizeOf153]
theorem aCp(b:aK):(bc b).toArray.extract 0 24=((AA b.tc).map nat).toArray:=by
 apply Array.ext';unfold bc;simp[jE]
theorem aAJ(b:aK):(bc b).toArray.extract 24 48=((AB b.held).map str).toArray:=by
 apply Array.ext';unfold bc;simp[jE];exact take_of_length_le (by simp[rW])
theorem aGL(x y:aK)(w:World):(Op.equalIn 10000 155 (.agg (bc x).toArray) (.agg (bc y).toArray)).run prog w=.ok (decide (AA x.tc=AA y.tc)&&decide (AB x.held=AB y.held)) w:=by
 obtain⟨i3,hi3,-⟩:=info_parts aID;obtain⟨i9,hi9,-⟩:=info_parts aIG;rw[run_equalIn_struct w 9999 155 _ _ aJx aJQ,aI2];have q1:(Op.equalIn 9999 152 (.agg ((AA x.tc).map nat).toArray) (.agg ((AA y.tc).map nat).toArray)).run prog w=.ok (decide (AA x.tc=AA y.tc)) w:=by
  rw[run_equalIn_array w 9998 _ _ underlying152 hi3,aJ4,qP prog 9997 3 nat aJ3 (Xe 9997) _ _ w _ (fun i hi=>by have:=mem_range.1 hi;rw[jE,jE];omega),yR _ _ 24 (jE _) (jE _)]
 have q2:(Op.equalIn 9999 153 (.agg ((AB x.held).map str).toArray) (.agg ((AB y.held).map str).toArray)).run prog w=.ok (decide (AB x.held=AB y.held)) w:=by
  rw[run_equalIn_array w 9998 _ _ underlying153 hi9,aIM,qP prog 9997 9 str aJm (Jk 9997) _ _ w _ (fun i hi=>by have:=mem_range.1 hi;rw[rW,rW];omega),yR _ _ 24 (rW _) (rW _)]
 simp only[Op.eqFields,ne_eq,String.reduceEq,not_false_eq_true,if_true,Sem.run_bind,aEb,aCp,Result.andThen_ok,q1];cases decide (AA x.tc=AA y.tc)
 ·simp
 ·simp only[Bool.not_true,Bool.false_eq_true,if_false,Sem.run_bind,aEc,aAJ,Result.andThen_ok,q2,Bool.true_and];cases decide (AB x.held=AB y.held) <;> simp
theorem aIP
  (hx:a.eval x=.pointer (some ⟨pb (a.eval x),po (a.eval x),none⟩)) (hA:rQ w (pb (a.eval x)) (po (a.eval x)) 48=true):Oper.wp prog { dst:=dst,op:=.load 155 x,type:=ty,pos:=pos,after:=after,guard:=guard } a w K Q=K (a.put dst (.agg (iQ w (pb (a.eval x)) (po (a.eval x)) 48).toArray)) w:=Jd underlying155 rfl aIL hx hA
theorem aIH
  (hx:DV 48 (a.eval x)=true):Oper.wp prog { dst:=dst,op:=.buildSlice 157 1 #[(0,x)],type:=ty,pos:=pos,after:=after,guard:=guard } a w K Q=K (a.put dst (Jn w.heap.size 1 1)) (w.alloc (.cells (ag (a.eval x)) 155)):=by
 obtain⟨i0,af,hz0,hz1,hz2⟩:=info_parts aI8;exact Gi underlying157 af hz0 hz1 (by omega) (by omega) hx
theorem aII{y:Operand}
  (hx:a.eval x=.pointer (some ⟨pb (a.eval x),0,none⟩)) (hy:DV 48 (a.eval y)=true) (hr:pR w (pb (a.eval x)) 48=true):Oper.wp prog { dst:=dst,op:=.store 155 x y,type:=ty,pos:=pos,after:=after,guard:=guard } a w K Q=K (a.put dst undef) (w.setRow (pb (a.eval x)) (ag (a.eval y))):=Gj aIL hx hy hr
theorem aIJ:Oper.wp prog { dst:=dst,op:=.alloc 155,type:=ty,pos:=pos,after:=after,guard:=guard } a w K Q=K (a.put dst (Jx w.heap.size 0)) (w.alloc (.cells (bc bJ).toArray 155)):=Gl (z:=.agg (bc bJ).toArray) zeroValue155
end
section
open Go.RowKit
attribute [local go_sem ↓] Go.wp_at_zero Go.wp_at_succ aIP aII aIJ aIH
attribute [local go_sem] Pq Pv Px lM pO mF rU zx kG nH pU jg Dt aAI Gw
variable {b:aK}
theorem kV(x y:aK):uY x y=true↔x=y:=by
 unfold uY;rw[Bool.and_eq_true,decide_eq_true_iff,decide_eq_true_iff];cases x;cases y;simp
theorem Jl(h:aK):∀(hs:List aK) (i j:Nat),j<hs.length->(∀q,q<j->hs[q]?≠some h)->hs[j]?=some h->fU hs h i=i+j
 | [],i,j,hj,_,_=>by simp at hj
 | x::xs,i,0,hj,_,he=>by
  rw[fU];simp at he;rw[aP ((kV _ _).2 he)];omega
 | x::xs,i,j+1,hj,hn,he=>by
  rw[fU];have h0:=hn 0 (by omega);simp at h0;rw[aU (fun e=>h0 ((kV _ _).1 e)),Jl h xs (i+1) j (by simpa using hj) (fun q hq=>by have:=hn (q+1) (by omega);simpa using this) (by simpa using he)];omega
theorem Gx(h:aK):∀(hs:List aK) (i:Nat),(∀q,q<hs.length->hs[q]?≠some h)->fU hs h i=i+hs.length
 | [],i,_=>by simp[fU]
 | x::xs,i,hn=>by
  rw[fU];have h0:=hn 0 (by simp);simp at h0;rw[aU (fun e=>h0 ((kV _ _).1 e)),Gx h xs (i+1) (fun q hq=>by have:=hn (q+1) (by simp;omega);simpa using this)];simp;omega
theorem aFu{x h:aK}(hx:qW x)(hh:qW h)(w:World):(Op.equalIn 10000 155 (.agg (bc x).toArray) (.agg (bc h).toArray)).run prog w=.ok (uY x h) w:=by
 rw[aGL,aIK hx.t,aIK hh.t,AO hx.h,AO hh.h];rfl
theorem aGM:(Value.agg (bc bJ).toArray).cells.size=48:=rfl
theorem QM(w:World)(b:Nat)(kh:Value)(hits:List aK)(h:aK)(hB:aG w b [kh] 159)(hh:Row Yc w kh hits)(h6:∀x∈hits,qW x)(hl:qW h)(hn0:0<hits.length)(hn1:hits.length<=10000):J1 61 #[Jx b 0,.agg (bc h).toArray] w fun e w'=>e=.returned (I (fU hits h 0:Int))∧∃Y9,aG w' b [Y9] 159∧Row Yc w' Y9 (if fU hits h 0=hits.length then hits++[h] else hits)∧aN w kh Y9∧Mod (fun k=>k=b∨kh.ownBlock=some k) w w':=by
 obtain⟨g,cap,rfl,hg,hcap⟩:=hh.form hn0;obtain⟨n,hn⟩:=eX hits.length;rw[<-hn]at hh hcap hn0 hn1;have HN:=qH hn;have H6:=qH h6;have HL:=qH hl;have HB:Hd (aG w b [Jn g n cap] 159):=by have:=hB;rw[hn];exact this
 have HH:=qH hh;have c2:=HB.o.aS 0 rfl;have hblt:=HB.o.lt;rw[<-hn]at hB ⊢;obtain⟨F,hF⟩:=eX (fU hits h 0);rw[<-hF];obtain⟨H2,hH2⟩:∃H2,H2=if F=n then hits++[h] else hits:=⟨_,rfl⟩
 rw[<-hH2];have HF:=qH (a2 hF hH2);clear hh h6 hl hB hn hF hH2;go_enter func61,ntmps61;go_wp2_with fail;have HZ:Hd (∀o,Mod No w (w.alloc o) ):=fun o=>(Mod.refl _ _).alloc o
 have HZ2:Hd (aG (w.alloc (.cells (bc h).toArray 155)) w.heap.size (bc h) 155):=heap_alloc_new w _;go_loopg [12] n (fun gh v12 wr=>∃i:Nat,v12=I i∧i<=n∧gh=n-i∧Mod No w wr∧aG wr w.heap.size (bc h) 155∧∀q,q<i->hits[q]?≠some h)
 case atStart=>exact⟨0,rfl,by omega,rfl,HZ.o _,HZ2.o,fun q hq=>by omega⟩
 case round=>
  obtain⟨i,rfl,hin,hgh,hm,hX,hno⟩:=hrel;have HM:=qH hm;have HX:=qH hX;have HNO:=qH hno;by_cases hlt:i<n
  ·obtain⟨x,hx⟩:∃x,hits[i]?=some x:=⟨hits[i]'(by have:=HN.o;omega),bG _⟩;have hrow:=HH.o.no hm;have hr1:wr.rangeAt g (i*48) (bc x):=hrow.range hx;have hX2:=hX;have hi1:(i:Int)<n:=by omega
   have heq:=aFu (H6.o x (iI hx)) HL.o;have HXI:=qH hx;have hnw:w.heap.size≠wr.heap.size:=by have:=hX.lt;omega
   have hr2:=hX2.range;have q1:=dF hr1;have q2:=dF hr2;rw[jg]at q1 q2;obtain⟨q1,q3⟩:=q1;obtain⟨q2,q4⟩:=q2;by_cases hxh:x=h
   ·subst hxh;have hde:uY x x=true:=(kV _ _).2 rfl;have HFI:Hd (F=i∧H2=hits):=by
     have e:F=i:=by rw[HF.o.1,Jl x hits 0 i (by have:=HN.o;omega) HNO.o HXI.o];omega
     exact⟨e,by rw[HF.o.2,aU (by omega)]⟩
    rw[hde]at heq;go_wp2;go_ret;exact⟨by rw[HFI.o.1];rfl,_,(HB.o.mod HM.o (fun x=>x)).alloc _,by rw[HFI.o.2];exact(HH.o.no HM.o).alloc _,aN.refl _ _,(HM.o.more (fun _ _ x=>x.elim)).alloc _⟩
   ·have hde:uY x h=false:=by cases hq:uY x h with
     | true=>exact absurd ((kV _ _).1 hq) hxh
     | false=>rfl
    rw[hde]at heq;go_wp2;go_roundg (n-(i+1))
    case measure=>omega
    case rel=>exact⟨i+1,by go_num,by omega,rfl,HM.o.alloc _,HX.o.alloc _,fun q hq e=>by
     by_cases hqi:q<i
     ·exact HNO.o q hqi e
     ·have:q=i:=by omega
      rw[this,HXI.o]at e
      exact hxh (dY e)⟩
  ·obtain rfl:i=n:=by omega
   have HFI:Hd (F=i∧H2=hits++[h]):=by
    have e:F=i:=by rw[HF.o.1,Gx h hits 0 (fun q hq=>HNO.o q (by have:=HN.o;omega))];have:=HN.o;omega
    exact⟨e,by rw[HF.o.2,aP e]⟩
   obtain⟨i0,af,hz0,hz1,hz2⟩:=info_parts aI8;have hB1:=HB.o.mod hm (fun x=>x);have hH1:=HH.o.no hm;have q2:=dF hX.range;rw[jg]at q2;obtain⟨q2,q4⟩:=q2;have d2:=hB1.cell 0 rfl;have K2:=hB1.aS 0 rfl;have F2:=hB1.dQ 0;have hown:wr.ownsRow 0 155 48 (Jn g i cap) i (hits.flatMap Yc.f):=by have:=hH1;unfold Row at this;rw[<-HN.o]at this;exact this
   have hb1:=hB1.lt;have hbg:some b≠(Jn g i cap).ownBlock:=fun e=>hB1.apart hH1 (by decide) e.symm
   have hX1:=hX.lt;go_wp2_with fail
   go_region_law (refine step_append_lies _ (by rfl) _ _ _ (by rfl) 0 155 i0 _ 48 576 underlying157 af hz0 hz1 hz2 aGM (by omega) (Jn g i cap) i (hits.flatMap Yc.f) (by rfl) ((hown.alloc _).drew) (J wr.heap.size 0) 1 1 (bc h) (by rfl) (by rw[jg]) (World.news_of_block (cs:=(bc h).toArray) (t:=155) (fr:=(0,0)) (heap_alloc_new wr _)) (aAH h) (by omega) (by unfold maxLen;omega) (by omega) (by simp) (wr.heap.size+1) (by simp) ?_;intro gg cap2 w7 gV hgrow hat fJ;have s0:=(hgrow.cell_far (J b 0) (by simp;omega) hbg).trans (K2 _);have s1:=(hgrow.frozen_far (J b 0) (by simp;omega) hbg).trans (F2 _))
   all_goals
    have Vu:=((hB1.alloc _).drew).grown hgrow hbg;have vY:Row Yc w7 (Jn gg (i+1) cap2) (hits++[h]):=by
     refine Row.snoc ?_;rw[<-HN.o];exact gV
    have Cb:aN w (Jn g i cap) (Jn gg (i+1) cap2):=by
     intro g1 hg1;cases hg1;rcases hat with h | h
     ·exact Or.inl h
     ·exact Or.inr (by have:=HM.o.size;show w.heap.size<=gg;omega)
    have sH:Mod (fun k=>k=b∨(Jn g i cap).ownBlock=some k) w w7:=(((HM.o.more (fun _ _ x=>x.elim)).alloc _).drew).grown hgrow (fun g1 hg1 _=>Or.inr hg1);have HR:Hd (aG (w7.setCell (J b 0) (Jn gg (i+1) cap2)) b [Jn gg (i+1) cap2] 159∧Row Yc (w7.setCell (J b 0) (Jn gg (i+1) cap2)) (Jn gg (i+1) cap2) (hits++[h])∧aN w (Jn g i cap) (Jn gg (i+1) cap2)∧Mod (fun k=>k=b∨(Jn g i cap).ownBlock=some k) w (w7.setCell (J b 0) (Jn gg (i+1) cap2))):=⟨Vu.set 0 _,vY.other (a:=J b 0) (Vu.apart vY (by decide)) _,Cb,sH.setCell (a:=J b 0) (fun _=>Or.inl rfl) _⟩;have z2:=HR.o.1.cell 0 rfl;go_wp2;go_ret;exact⟨by rw[HFI.o.1];exact bQ (by omega),_,HR.o.1,by rw[HFI.o.2];exact HR.o.2.1,HR.o.2.2.1,HR.o.2.2.2⟩
theorem Tq{su:bP}{k:Nat}{r:List (List UInt8)}{R:aK}(hr:su[k]?=some r)(h:jk (su.drop k) k b=some R):∃x,r[0]?=some x∧k<24∧jk (su.drop (k+1)) (k+1) { b with held:=b.held.set k x }=some R:=by
 obtain⟨h1,h2⟩:=bU hr;rw[kJ h1,h2,jk]at h;split at h
 ·cases h
 ·rename_i x hx;split at h
  ·rename_i hk;exact⟨x,hx,hk,h⟩
  ·cases h
theorem qW.setH(h:qW b)(k:Nat)(x:List UInt8):qW { b with held:=b.held.set k x }:=⟨h.t,by simp[h.h]⟩
theorem qW.aGN(h:qW b)(k x:Nat):qW { b with tc:=b.tc.set k x }:=⟨by simp[h.t],h.h⟩
theorem Tt(w:World)(O gs n cap:Nat)(c0 c1 c2 c3 c5:Value)(su:bP)(hO:aG w O [c0,c1,c2,c3,Jn gs n cap,c5] 150)(hs:Row SuE w (Jn gs n cap) su)(hsk:Dq su n)(hn:n<=24)(hM:jk su 0 bJ=some b):J1 59 #[Jx O 0] w fun e w'=>e=.returned (.agg (bc b).toArray)∧Mod No w w'∧qW b:=by
 have HO:=qH (a2 hO hs);have HS:=qH hsk;have HM:Hd (jk (su.drop 0) 0 bJ=some b):=hM;have aGO:=hO.lt;have o4:=fun A B=>((hO.alloc A).alloc B).cell 4 rfl
 go_enter func59,ntmps59;go_wp2_with fail;have HI0:Hd (Mod No w ((w.alloc (.cells (bc bJ).toArray 155)).alloc (.cells (bc bJ).toArray 155))∧aG ((w.alloc (.cells (bc bJ).toArray 155)).alloc (.cells (bc bJ).toArray 155)) w.heap.size (bc bJ) 155∧aG ((w.alloc (.cells (bc bJ).toArray 155)).alloc (.cells (bc bJ).toArray 155)) (w.heap.size+1) (bc bJ) 155):=⟨((Mod.refl _ _).alloc _).alloc _,gq w _ _,fE w _ _⟩;generalize (w.alloc (.cells (bc bJ).toArray 155)).alloc (.cells (bc bJ).toArray 155)=W0 at HI0 ⊢;go_loopg [10] n (fun gh v10 wr=>∃(k:Nat) (bk:aK),k<=n∧gh=n-k∧v10=I k∧qW bk∧jk (su.drop k) k bk=some b∧Mod No w wr∧aG wr w.heap.size (bc bJ) 155∧aG wr (w.heap.size+1) (bc bk) 155)
 case atStart=>exact⟨0,bJ,by omega,by omega,rfl,qW.zero,HM.o,HI0.o.1,HI0.o.2.1,HI0.o.2.2⟩
 case round=>
  obtain⟨k,bk,hkn,hgk,rfl,hbk,hgo,hm,hR,hB⟩:=hrel;have xA:=qH hm;have HR:=qH hR;have HB:=qH hB;have SV:=qH hbk;by_cases hlt:k<n
  ·obtain⟨r,hr⟩:∃r,su[k]?=some r:=⟨su[k]'(by rw[HS.o.len];exact hlt),bG _⟩;obtain⟨x,hx,Xf,hnext⟩:=Tq hr hgo;have hO:=HO.o.1.mod hm (fun x=>x);have hs:=HO.o.2.no hm;have o4:=hO.cell 4 rfl;have cx:wr.cell? (J gs (k*4))=some (.string ⟨x.toArray⟩):=hs.cell k 0 hr (aAA (by omega) hx);obtain⟨y,hy⟩:∃y,bk.held[k]?=some y:=⟨bk.held[k]'(by rw[hbk.h];exact Xf),bG _⟩;have cy:=hB.cell (24+k) (xE hbk hy);have fy:=hB.free (24+k);have pV:=qH hnext;have HB2:Hd (aG (wr.setCell ⟨w.heap.size+1,24+k,none⟩ (.string ⟨x.toArray⟩)) (w.heap.size+1) (bc { bk with held:=bk.held.set k x }) 155):=qH <| by
    rw[Lr hbk];exact hB.set (24+k) _
   have hki:(k:Int)<n:=by omega
   have hk2:(k:Int)<24:=by omega
   go_wp2;go_roundg (n-(k+1))
   case measure=>omega
   case rel=>exact⟨k+1,_,by omega,rfl,by go_num,SV.o.setH k x,pV.o,xA.o.setCell (a:=⟨w.heap.size+1,24+k,none⟩) (fun e=>absurd e (by simp)) _,HR.o.other (a:=⟨w.heap.size+1,24+k,none⟩) (by simp) _,HB2.o⟩
  ·obtain rfl:k=n:=by omega
   have e1:=drop_of_length_le (by rw[HS.o.len];omega);rw[e1]at hgo;have HE:=qH (dY hgo);have q1:=dF hB.range;rw[jg]at q1;obtain⟨q1,q3⟩:=q1;have q2:=zu hR;rw[jg]at q2;have hkk:¬(k:Int)<k:=by omega
   go_wp2;refine bodyPost_ret (v:=.agg (bc bk).toArray) (results_cell_row (p:=2) rfl _ _ w.heap.size 155 (bc bk).toArray (0,0) _ rfl (HR.o.setRow (bc bk)) underlying155 rfl (by simp[aIL,jg])) rfl ⟨by rw[HE.o],xA.o.setRow (fun e=>absurd e (by omega)) _,by rw[<-HE.o];exact SV.o⟩
theorem QN(w:World)(v:M2.View)(base:Nat)(ka kw kh kd:Value)(hv:VP v base ka kw kh kd w){o:Uk}(hM:oU v=some o):J1 58 #[.agg #[ka,kw,kh,kd]] w fun e w'=>Mod No w w'∧o.v=v∧∃vs va,e=.returned (.agg #[ka,kw,kh,kd,vs,va])∧VP v base ka kw kh kd w'∧Row SuE w' vs o.su∧Row ApE w' va o.ap∧Dq o.su v.k.ahead.length∧xU o.ap v.k.ahead.length:=by
 obtain⟨s0,s1,a1,h0,h1,h2,rfl⟩:∃s0 s1 a1,oP v v.k.words=some s0∧lY v 10000 s0=some s1∧nT v s1 1000 (replicate s1.length Qr)=some a1∧o=⟨v,s1,a1⟩:=by
  unfold oU at hM;split at hM
  ·cases hM
  ·rename_i s0 hs0;split at hM
   ·cases hM
   ·rename_i s1 hs1;cases hq:nT v s1 1000 (replicate s1.length Qr)with
    | none=>
     have hq2:nT v s1 1000 (replicate s1.length [aX,aX,aX,aX])=none:=hq;rw[hq2]at hM;cases hM
    | some a1=>
     have hq2:nT v s1 1000 (replicate s1.length [aX,aX,aX,aX])=some a1:=hq;rw[hq2]at hM;exact⟨s0,s1,a1,hs0,hs1,hq,(dY hM).symm⟩
 obtain⟨b1,n1,c1,e1⟩:=hv.ah.sl;obtain⟨b2,n2,c2,e2⟩:=hv.wo.sl;obtain⟨b3,n3,c3,e3⟩:=hv.hi.sl;obtain⟨b4,n4,c4,e4⟩:=hv.de.sl;have HV:=qH hv;have H0:=qH (a3 h0 h1 h2);have HE:=qH (a4 e1 e2 e3 e4);rw[e1,e2,e3,e4];go_enter func58,ntmps58;go_wp2_with fail;have hm0:Mod No w (((w.alloc (.cells #[.slice b1 n1 c1,.slice b2 n2 c2,.slice b3 n3 c3,.slice b4 n4 c4] 86)).alloc (.cells #[aH,aH,aH,aH,aH,aH] 150)).alloc (.cells #[.slice b1 n1 c1,.slice b2 n2 c2,.slice b3 n3 c3,.slice b4 n4 c4,aH,aH] 150)):=(((Mod.refl _ _).alloc _).alloc _).alloc _;have hR0:aG (((w.alloc (.cells #[.slice b1 n1 c1,.slice b2 n2 c2,.slice b3 n3 c3,.slice b4 n4 c4] 86)).alloc (.cells #[aH,aH,aH,aH,aH,aH] 150)).alloc (.cells #[.slice b1 n1 c1,.slice b2 n2 c2,.slice b3 n3 c3,.slice b4 n4 c4,aH,aH] 150)) (w.heap.size+1) [aH,aH,aH,aH,aH,aH] 150:=tu w _ _ _;have hO0:OL v [] [] base (w.heap.size+1+1) ka kw kh kd aH aH (((w.alloc (.cells #[.slice b1 n1 c1,.slice b2 n2 c2,.slice b3 n3 c3,.slice b4 n4 c4] 86)).alloc (.cells #[aH,aH,aH,aH,aH,aH] 150)).alloc (.cells #[.slice b1 n1 c1,.slice b2 n2 c2,.slice b3 n3 c3,.slice b4 n4 c4,aH,aH] 150)):=⟨by rw[HE.o.1,HE.o.2.1,HE.o.2.2.1,HE.o.2.2.2];exact uD w _ _ _,HV.o.no hm0,Row.nil _ _,Row.nil _ _⟩;refine(Lp _ v base (w.heap.size+1+1) ka kw kh kd hO0 H0.o.1 H0.o.2.1).mono ?_;rintro e w1 ⟨rfl,vs,hF,hS⟩;have hm1:=hm0.trans' hF.md (fun k hk e=>by omega);have hR1:=hR0.mod hF.md (by omega);have hO1:=hF.ol;go_wp2_with fail;refine(Ic w1 v s1 base (w.heap.size+1+1) ka kw kh kd vs hO1 hS H0.o.2.2).mono ?_;rintro e w2 ⟨rfl,va,hF,hA⟩;have hm2:=hm1.trans' hF.md (fun k hk e=>by omega);have hR2:=hR1.mod hF.md (by omega);have hO2:=hF.ol;obtain⟨b5,n5,c5,e5⟩:=hO2.su.sl;obtain⟨b6,n6,c6,e6⟩:=hO2.ap.sl;have HO2:=qH (a7 hO2 hm2 hR2 hS hA e5 e6);have o0:=hO2.blk.cell 0 rfl;have o1:=hO2.blk.cell 1 rfl;have o2:=hO2.blk.cell 2 rfl;have o3:=hO2.blk.cell 3 rfl;have o4:=hO2.blk.cell 4 rfl;have o5:=hO2.blk.cell 5 rfl;rw[e1]at o0;rw[e2]at o1;rw[e3]at o2;rw[e4]at o3;rw[e5]at o4;rw[e6]at o5;have z0:=hR2.cell 0 rfl;have z1:=hR2.cell 1 rfl;have z2:=hR2.cell 2 rfl;have z3:=hR2.cell 3 rfl;have z4:=hR2.cell 4 rfl;have z5:=hR2.cell 5 rfl;have f0:=hR2.free 0;have f1:=hR2.free 1;have f2:=hR2.free 2;have f3:=hR2.free 3;have f4:=hR2.free 4;have f5:=hR2.free 5;go_wp2;refine bodyPost_ret (v:=.agg #[.slice b1 n1 c1,.slice b2 n2 c2,.slice b3 n3 c3,.slice b4 n4 c4,.slice b5 n5 c5,.slice b6 n6 c6]) (by simp[results,results58,go_sem,z0,z1,z2,z3,z4,z5]) rfl ?_;obtain⟨hO,hm,hR,hS,hA,e5,e6⟩:=HO2.o;have DY:Mod (fun q=>q=w.heap.size+1) w2 ((((((w2.setCell ⟨w.heap.size+1,0,none⟩ (.slice b1 n1 c1)).setCell ⟨w.heap.size+1,1,none⟩ (.slice b2 n2 c2)).setCell ⟨w.heap.size+1,2,none⟩ (.slice b3 n3 c3)).setCell ⟨w.heap.size+1,3,none⟩ (.slice b4 n4 c4)).setCell ⟨w.heap.size+1,4,none⟩ (.slice b5 n5 c5)).setCell ⟨w.heap.size+1,5,none⟩ (.slice b6 n6 c6)):=((((((Mod.refl (fun q=>q=w.heap.size+1) w2).setCell (a:=⟨w.heap.size+1,0,none⟩) (fun _=>rfl) _).setCell (a:=⟨w.heap.size+1,1,none⟩) (fun _=>rfl) _).setCell (a:=⟨w.heap.size+1,2,none⟩) (fun _=>rfl) _).setCell (a:=⟨w.heap.size+1,3,none⟩) (fun _=>rfl) _).setCell (a:=⟨w.heap.size+1,4,none⟩) (fun _=>rfl) _).setCell (a:=⟨w.heap.size+1,5,none⟩) (fun _=>rfl) _;have key:∀{α:Type} {E:Enc α} {v:Value} {xs:List α},Row E w2 v xs->E.T≠150->Row E _ v xs:=fun hr ht=>hr.mod DY (fun g hg e=>hR.apart hr (fun e2=>ht e2.symm) (by rw[hg,e]))
 have hv:=hO.vp;refine⟨hm.trans' DY (fun k hk e=>by omega),trivial,vs,va,?_,?_,key hO.su (by decide),key hO.ap (by decide),hS,hA⟩
 ·rw[e5,e6]
 ·have:=(⟨hv.ok,hv.Xa,hv.n24,hv.nh,key hv.ah (by decide),key hv.wo (by decide),key hv.hi (by decide),key hv.de (by decide),hv.fa,hv.fw,hv.fh,hv.fd⟩:VP v base ka kw kh kd _)
  rwa [HE.o.1,HE.o.2.1,HE.o.2.2.1,HE.o.2.2.2]at this
end
section
open Go.RowKit
attribute [local go_sem ↓] Go.wp_at_zero Go.wp_at_succ aIP aII aIJ aIH
variable {b nk:aK} {k:Nat} {w wr:World}
theorem Gy(w:World)(b n:Nat):pR w.drew b n=pR w b n:=rfl
attribute [local go_sem] Gy Pq Pv Px lM pO mF rU zx kG nH pU jg Dt aAI Gw
theorem QO{v:M2.View}{su:bP}{ap:M2.Apart}{l:Nat}{rs:List aI.R4}{r:aI.R4}{n R:aK}(hr:rs[k]?=some r)(h:jw v su ap b l (rs.drop k) k n=some R):∃before tc hd said left le,r.get l=some before∧b.tc[before]?=some tc∧b.held[before]?=some hd∧tc<4∧hd.length<=100000∧nS v su before tc l k=some (said,left)∧mM ap k left 10 0=some le∧k<24∧said.length<=100000∧jw v su ap b l (rs.drop (k+1)) (k+1) ⟨n.tc.set k le,n.held.set k (hd++said)⟩=some R:=by
 obtain⟨h1,h2⟩:=bU hr;rw[kJ h1,h2,jw]at h;split at h
 ·cases h
 ·rename_i before hb;split at h
  ·rename_i tc hd htc hhd;split at h
   ·rename_i hc;split at h
    ·cases h
    ·rename_i said left hes;split at h
     ·cases h
     ·rename_i le hle;split at h
      ·rename_i hk;exact⟨before,tc,hd,said,left,le,hb,htc,hhd,hc.1,hc.2,hes,hle,hk.1,hk.2,h⟩
      ·cases h
   ·cases h
  ·cases h
theorem drop_step{m n:Nat}{hs R:List (List UInt8)}(h:oW m (n+1) k hs=some R):∃x,hs[k]?=some x∧m<=x.length∧oW m n (k+1) (hs.set k (x.drop m))=some R:=by
 rw[oW]at h;split at h
 ·cases h
 ·rename_i x hx;split at h
  ·cases h
  ·exact⟨x,hx,by omega,h⟩
theorem BM{P:Program}{fn:Func}{p u:Tmp}{ty:TypeId}(h:fn.results=#[.tmp u,.cell p ty])(tmps:Array Value)(w:World)(g:Nat)(t:TypeId)(cs:Array Value)(fr:Nat × Nat)(d:TypeDesc)
  (hp:tmps.getD p undef=Jx g 0) (hg:w.heap[g]?=some (.cells cs t fr))
  (hu:P.underlying ty=some d) (hd:(match d with | .struct _ | .array _ _=>true | _=>false)=true) (hi:(P.info? ty).map (·.size)=some cs.size):(results fn tmps).run P w=.ok (.tuple #[tmps.getD u undef,.agg cs]) w:=by
 have hp':tmps[p]?.getD undef=Jx g 0:=by simpa using hp
 simp only[results,h];simp[Result.andThen,hp',asAddr,run_loadVar_row w g t ty cs fr d hg hu hd hi]
structure FI(w:World)(b nk:aK)(wr:World):Prop where
 box:aG wr w.heap.size (bc b) 155
 res:aG wr (w.heap.size+1) (bc bJ) 155
 nx:aG wr (w.heap.size+1+1) (bc nk) 155
 md:Mod No w wr
theorem FI.no{wr':World}(h:FI w b nk wr)(hm:Mod No wr wr'):FI w b nk wr':=⟨h.box.mod hm (fun x=>x),h.res.mod hm (fun x=>x),h.nx.mod hm (fun x=>x),h.md.no hm⟩
theorem FI.put{nk':aK}{j:Nat}{u:Value}(h:FI w b nk wr)(he:bc nk'=(bc nk).set j u):FI w b nk' (wr.setCell ⟨w.heap.size+1+1,j,none⟩ u):=⟨h.box.other (a:=⟨w.heap.size+1+1,j,none⟩) (by simp;omega) _,h.res.other (a:=⟨w.heap.size+1+1,j,none⟩) (by simp) _,by rw[he];exact h.nx.set j u,h.md.setCell (a:=⟨w.heap.size+1+1,j,none⟩) (fun e=>absurd e (by simp;omega)) _⟩
theorem Tv(w:World)(v:M2.View)(su:bP)(ap:M2.Apart)(base O:Nat)(ka kw kh kd:Value)(gs ga n cs ca:Nat)(hO:OL v su ap base O ka kw kh kd (Jn gs n cs) (Jn ga n ca) w)(hn:n=v.k.ahead.length)(hn0:0<n)(hs:Dq su n)(ha:xU ap n)(b:aK)(hb:qW b)(l:Nat)(hl:l<4){said:List UInt8}{nb:aK}(hM:M3.follow v su ap b l=some (said,nb)):J1 60 #[Jx O 0,.agg (bc b).toArray,I l] w fun e w'=>e=.returned (.tuple #[.string ⟨said.toArray⟩,.agg (bc nb).toArray])∧Mod No w w'∧qW nb:=by
 obtain⟨nf,hd',hg,hall,hdrop,hsd,hnb⟩:∃nf hd',jw v su ap b l v.k.ahead 0 bJ=some nf∧(∀x∈nf.held,x.length<=1000000)∧oW (jS (nf.held.take n)).length n 0 nf.held=some hd'∧said=jS (nf.held.take n)∧nb={ nf with held:=hd' }:=by
  unfold M3.follow at hM;split at hM
  ·cases hM
  ·rename_i nf hnf;split at hM
   ·cases hM
   ·rename_i hal;rw[hs.len]at hM;split at hM
    ·cases hM
    ·rename_i h hh;have:=dY hM;injection this with e1 e2;refine⟨nf,h,hnf,?_,hh,e1.symm,e2.symm⟩;simp at hal;exact hal
 have aIU:n<=24:=by rw[hn];exact hO.vp.n24
 obtain⟨a1,c1,e1,-,-⟩:=hO.vp.ah.open hn.symm;obtain⟨g1,hg1⟩:∃g,a1=some (J g 0):=by
  obtain⟨g2,c2,h2,-⟩:=hO.vp.ah.form (by omega);rw[e1]at h2;injection h2 with h2 _;exact⟨g2,h2⟩
 subst hg1;have H50:=qH fun(wx:World) (kind:Nat) (tc:Nat) (next:Nat) (r:List UInt8 × Nat) (hm:Mod No w wx) (hk:kind<n) (ht:tc<4) (hM:nS v su kind tc l next=some r)=>Ji wx v su ap base O ka kw kh kd _ _ (hO.no hm) (by rw[<-hn];exact hs) kind tc l next (by omega) ht hl hM
 have H51:=qH fun(wx:World) (k:Nat) (tc:Nat) (r:Nat) (hm:Mod No w wx) (hk:k<n) (ht:tc<4) (hM:mM ap k tc 10 0=some r)=>Tc wx O ga n ca ap ka kw kh kd _ (hO.no hm).blk (hO.no hm).ap ha k tc hk (by omega) ht hM
 have HV:=qH (a2 hO.vp.ok hn);have HO:=qH hO;have HKA:=qH e1;have HB:=qH hb;have HG:Hd (jw v su ap b l (v.k.ahead.drop 0) 0 bJ=some nf):=hg;have ny:=qH (a4 hall hdrop hsd hnb);have aGO:=hO.blk.lt;have o0:=fun A B C=>(((hO.blk.alloc A).alloc B).alloc C).cell 0 rfl
 rw[e1]at o0;clear hO hs ha hb hM hg hall hdrop hsd hnb hn e1;go_enter func60,ntmps60;go_wp2_with fail;have HI0:Hd (FI w b bJ (((w.alloc (.cells (bc b).toArray 155)).alloc (.cells (bc bJ).toArray 155)).alloc (.cells (bc bJ).toArray 155))):=⟨vV w _ _ _,tu w _ _ _,uD w _ _ _,(((Mod.refl _ _).alloc _).alloc _).alloc _⟩;generalize ((w.alloc (.cells (bc b).toArray 155)).alloc (.cells (bc bJ).toArray 155)).alloc (.cells (bc bJ).toArray 155)=W0 at HI0 ⊢;go_loopg [23] n (fun gh v23 wr=>∃(k:Nat) (nk:aK),k<=n∧gh=n-k∧v23=I k∧qW nk∧jw v su ap b l (v.k.ahead.drop k) k nk=some nf∧FI w b nk wr)
 case atStart=>exact⟨0,bJ,by omega,by omega,rfl,qW.zero,HG.o,HI0.o⟩
 case round=>
  obtain⟨k,nk,hkn,hgk,rfl,hbk,hgo,hI⟩:=hrel;have HI:=qH hI;have SV:=qH hbk;by_cases hlt:k<n
  ·obtain⟨r,hr⟩:∃r,v.k.ahead[k]?=some r:=⟨v.k.ahead[k]'(by have:=HV.o.2;omega),bG _⟩;obtain⟨before,tc,hd,sd,left,le,hbf,htc,hhd,Vx,hh5,hes,hle,Xf,hs5,hnext⟩:=QO hr hgo;have hbn:before<n:=by have:=HV.o.1.ent r (iI hr) l before hbf;have:=HV.o.2;omega
   have hlt4:=Gu HV.o.1 Vx hes;have hra:=(HO.o.no hI.md).vp.ah;rw[HKA.o]at hra;have r0:wr.cell? (J g1 (k*4))=some (I r.a):=hra.cell k 0 hr rfl;have r1:wr.cell? (J g1 (k*4+1))=some (I r.b):=hra.cell k 1 hr rfl;have r2:wr.cell? (J g1 (k*4+2))=some (I r.c):=hra.cell k 2 hr rfl;have r3:wr.cell? (J g1 (k*4+3))=some (I r.d):=hra.cell k 3 hr rfl;have rq:(wr.alloc (.cells #[I r.a,I r.b,I r.c,I r.d] 102)).cell? (J wr.heap.size l)=some (I before):=by
    have hb:aG (wr.alloc (.cells #[I r.a,I r.b,I r.c,I r.d] 102)) wr.heap.size [I r.a,I r.b,I r.c,I r.d] 102:=heap_alloc_new wr _;refine hb.cell l ?_;have q:=zq r l hl;rw[hbf]at q;exact q
   have tq:=hI.box.aS before (aCW HB.o htc);have h50:=H50.o (wr.alloc (.cells #[I r.a,I r.b,I r.c,I r.d] 102)) before tc k (sd,left) (hI.md.alloc _) hbn Vx hes;simp only at h50 hlt4;have HX:=qH (a3 hhd hle hnext);have hki:(k:Int)<n:=by omega
   have hk2:(k:Int)<24:=by omega
   have hl4:(l:Int)<4:=by omega
   have aH2:(before:Int)<24:=by omega
   go_wp2_with fail;refine h50.mono ?_;rintro e w2 ⟨rfl,m2⟩;have HI2:=qH ((HI.o.no ((Mod.refl _ _).alloc _)).no m2);have h51:=H51.o w2 k left le HI2.o.md hlt hlt4 HX.o.2.1;go_wp2_with fail;refine h51.mono ?_;rintro e w3 ⟨rfl,hw3⟩;rw[hw3];obtain⟨t0,ht0⟩:∃t0,nk.tc[k]?=some t0:=⟨nk.tc[k]'(by rw[SV.o.t];exact Xf),bG _⟩;obtain⟨y0,hy0⟩:∃y0,nk.held[k]?=some y0:=⟨nk.held[k]'(by rw[SV.o.h];exact Xf),bG _⟩;have ct:=HI2.o.nx.cell k (aCW SV.o ht0);have ft:=HI2.o.nx.free k;have hb2:bc { nk with tc:=nk.tc.set k le }=(bc nk).set k (I le):=aCo SV.o Xf;have zk:=HI2.o.put hb2;have hB3:=SV.o.aGN k le;have ch:=zk.box.cell (24+before) (xE HB.o HX.o.1);have cy:=zk.nx.cell (24+k) (xE hB3 hy0);have fy:=zk.nx.free (24+k);obtain⟨HD,hHD⟩:=eX (⟨hd.toArray⟩:ByteArray);obtain⟨SD,hSD⟩:=eX (⟨sd.toArray⟩:ByteArray);have hs1:HD.size=hd.length:=by rw[hHD];exact aZ hd
   have hs2:SD.size=sd.length:=by rw[hSD];exact aZ sd
   have aD0:Hd (HD++SD=⟨(hd++sd).toArray⟩):=by show HD++SD=_;rw[hHD,hSD,oD]
   have Lj:¬9223372036854775807<HD.size+SD.size:=by omega
   have mV:FI w b ⟨nk.tc.set k le,nk.held.set k (hd++sd)⟩ ((w2.setCell ⟨w.heap.size+1+1,k,none⟩ (I le)).setCell ⟨w.heap.size+1+1,24+k,none⟩ (.string ⟨(hd++sd).toArray⟩)):=zk.put (Lr hB3);rw[<-aD0.o]at mV;have HI4:=qH mV;have HB4:Hd (qW ⟨nk.tc.set k le,nk.held.set k (hd++sd)⟩):=hB3.setH k (hd++sd);rw[<-hHD]at ch;rw[<-hSD];obtain⟨w4,hw4⟩:∃w4,w2.setCell ⟨w.heap.size+1+1,k,none⟩ (I le)=w4:=⟨_,rfl⟩;rw[hw4]at ch cy fy HI4;clear zk hB3 mV ht0 hy0 hb2 hHD hSD;go_wp2;go_roundg (n-(k+1))
   case measure=>omega
   case rel=>exact⟨k+1,_,by omega,rfl,by go_num,HB4.o,HX.o.2.2,HI4.o⟩
  ·obtain rfl:k=n:=by omega
   have e1:v.k.ahead.drop k=[]:=drop_of_length_le (by have:=HV.o.2;omega);rw[e1]at hgo;have hnk:=dY hgo;subst hnk;have hO2:=HO.o.no hI.md;have o4:=hO2.blk.cell 4 rfl;have hws:∀i x,(nk.held.take k)[i]?=some x->wr.cell? ⟨w.heap.size+1+1,24+i,none⟩=some (.string ⟨x.toArray⟩):=fun i x hx=>by
    rw[getElem?_take]at hx;split at hx
    ·exact hI.nx.cell (24+i) (xE hbk hx)
    ·cases hx
   have h52:=QJ wr (w.heap.size+1+1) 24 k 24 (nk.held.take k) hws (by rw[length_take,hbk.h];omega) hn0 (by omega) (fun x hx=>ny.o.1 x (mem_of_mem_take hx));obtain⟨sd,hsd⟩:=eX (jS (nk.held.take k));have HD:Hd (oW sd.length k 0 nk.held=some hd'∧said=sd∧nb={ nk with held:=hd' }):=by rw[hsd];exact ny.o.2
   rw[<-hsd]at h52;have HSL:=qH ny.o.1;have Xf:(k:Int)<=24:=by omega
   have hkk:¬(k:Int)<k:=by omega
   clear hI hbk hgo e1 hws hO2 hsd ny H50 H51;go_wp2_with fail;refine h52.mono ?_;rintro e w2 ⟨rfl,m2⟩;have HI2:=qH (HI.o.no m2);have hO2:=HO.o.no HI2.o.md;have o4:=hO2.blk.cell 4 rfl;obtain⟨SA,Yd⟩:=eX (⟨sd.toArray⟩:ByteArray);have hSs:SA.size=sd.length:=by rw[Yd];exact aZ sd
   have HSA:=qH Yd;rw[<-Yd];clear h52 m2 HI hO2 Yd;go_wp2_with fail;go_loopg [73] k (fun gh v73 wr=>∃(q:Nat) (hs:List (List UInt8)),q<=k∧gh=k-q∧v73=I q∧hs.length=24∧(∀x∈hs,x.length<=1000000)∧oW sd.length gh q hs=some hd'∧FI w b { nk with held:=hs } wr)
   case atStart=>exact⟨0,nk.held,by omega,by omega,rfl,SV.o.h,HSL.o,HD.o.1,HI2.o⟩
   case round=>
    obtain⟨q,hs,hqk,hgq,rfl,aCq,hhs,hdr,hI⟩:=hrel;have HI:=qH hI;have hbq:qW { nk with held:=hs }:=⟨SV.o.t,aCq⟩;have HBQ:=qH (a2 hbq hhs);by_cases hlt:q<k
    ·obtain⟨g,rfl⟩:∃g,gk=g+1:=⟨gk-1,by omega⟩;obtain⟨x,hx,hmx,hnext⟩:=drop_step hdr;have hxs:=hhs x (iI hx);have cx:=hI.nx.cell (24+q) (xE hbq hx);have fx:=hI.nx.free (24+q);have pV:Hd (oW sd.length g (q+1) (hs.set q (x.drop sd.length))=some hd'):=hnext;have HIX:Hd (FI w b { nk with held:=hs.set q (x.drop sd.length) } (wr.setCell ⟨w.heap.size+1+1,24+q,none⟩ (.string ⟨(x.drop sd.length).toArray⟩))):=hI.put (Lr (b:={ nk with held:=hs }) hbq);have HHS:Hd (∀y∈hs.set q (x.drop sd.length),y.length<=1000000):=fun y hy=>by
      rcases mem_or_eq_of_mem_set hy with h | h
      ·exact hhs y h
      ·rw[h,length_drop];omega
     obtain⟨X,hX⟩:=eX (⟨x.toArray⟩:ByteArray);have hXs:X.size=x.length:=by rw[hX];exact aZ x
     have aGP:Hd (X.extract sd.length X.size=⟨(x.drop sd.length).toArray⟩):=by show X.extract sd.length X.size=_;rw[hXs,hX];exact QI x sd.length
     rw[<-aGP.o]at HIX;rw[<-hX]at cx;have hqi:(q:Int)<k:=by omega
     have aH3:(q:Int)<24:=by omega
     have Vb:(SA.size:Int)<=X.size:=by omega
     have hmn:SA.size<=X.size:=by omega
     have aGQ:=qH aCq;clear hI hbq hhs hdr hx hnext hX hXs aCq hxs hmx;go_wp2;go_roundg g
     case measure=>omega
     case rel=>exact⟨q+1,_,by omega,by omega,by go_num,by rw[length_set];exact aGQ.o,HHS.o,pV.o,HIX.o⟩
    ·obtain rfl:q=k:=by omega
     obtain rfl:gk=0:=by omega
     have HE:Hd (hs=hd'):=dY hdr;have q1:=dF hI.nx.range;rw[jg]at q1;obtain⟨q1,q3⟩:=q1;have q2:=zu hI.res;rw[jg]at q2;have aFv:¬(q:Int)<q:=by omega
     clear hI hbq hhs hdr aCq hgq hqk hgk hkn aFv hkk hlt;have aFv:¬(q:Int)<q:=by omega
     go_wp2_with fail
     go_region
     all_goals
      go_wp2;have hI2:=HI.o;refine bodyPost_ret (v:=.tuple #[.string SA,.agg (bc { nk with held:=hs }).toArray]) (BM (p:=7) (u:=6) rfl _ _ (w.heap.size+1) 155 (bc { nk with held:=hs }).toArray (0,0) _ rfl (hI2.res.drew.setRow (bc { nk with held:=hs })) underlying155 rfl (by simp[aIL,jg])) rfl ⟨?_,hI2.md.drew.setRow (fun e=>absurd e (by omega)) _,?_⟩
      ·rw[HD.o.2.1,HD.o.2.2,<-HSA.o,<-HE.o]
      ·rw[HD.o.2.2,<-HE.o];exact HBQ.o.1
end
end Go.Proofs.YtoebidlghdidoaaGreatDoor
