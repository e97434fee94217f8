import Derived.Test.YtoebidlghdidoaaGreatDoorAU
set_option maxHeartbeats 1600000
set_option maxRecDepth 100000
namespace Go.Proofs.YtoebidlghdidoaaGreatDoor
open M2 Tryz List Go.RowKit
attribute [local go_sem ↓] Go.wp_at_zero Go.wp_at_succ
variable {i j n k base O kind l next x tc:Nat} {a ap:M2.Apart} {v:M2.View} {su s:bP} {ka kw kh kd vs:Value} {w:List UInt8} {g b:Bool} {R:Bool × M2.Apart} {r:List UInt8 × Nat} {xs:List (List UInt8)}
theorem aD7{a:List (List Bool)}(h4:a.length=4)(hq:∀q∈a,q.length=4)(hi:i<4)(hj:j<4):ApE.f (a.modify i (fun q=>q.set j true))=(ApE.f a).set (i*4+j) (.bool true):=by
 match a,h4 with
 | [p,q,r,s],_=>
  have hp:=hq p (by simp);have hq':=hq q (by simp);have hr:=hq r (by simp);have hs:=hq s (by simp)
  match p,hp,q,hq',r,hr,s,hs with
  | [p0,p1,p2,p3],_,[q0,q1,q2,q3],_,[r0,r1,r2,r3],_,[s0,s1,s2,s3],_=>
   match i,hi,j,hj with
   | 0,_,0,_=>rfl
   | 0,_,1,_=>rfl
   | 0,_,2,_=>rfl
   | 0,_,3,_=>rfl
   | 1,_,0,_=>rfl
   | 1,_,1,_=>rfl
   | 1,_,2,_=>rfl
   | 1,_,3,_=>rfl
   | 2,_,0,_=>rfl
   | 2,_,1,_=>rfl
   | 2,_,2,_=>rfl
   | 2,_,3,_=>rfl
   | 3,_,0,_=>rfl
   | 3,_,1,_=>rfl
   | 3,_,2,_=>rfl
   | 3,_,3,_=>rfl
theorem mem_modify{α:Type}{l:List α}{f:α->α}{x:α}(h:x∈l.modify i f):x∈l∨∃y∈l,x=f y:=by
 obtain⟨q,hq⟩:=mem_iff_getElem?.1 h;rw[getElem?_modify]at hq
 cases hs:l[q]? with
 | none=>rw[hs]at hq;simp at hq
 | some r0=>
  rw[hs]at hq;by_cases hi:i=q
  ·simp[hi]at hq;exact Or.inr ⟨r0,iI hs,hq.symm⟩
  ·simp[hi]at hq;exact Or.inl (by rw[<-hq];exact iI hs)
theorem xU.set(h:xU a n):xU (sN a i j k) n:=by
 unfold sN;refine⟨by rw[length_modify];exact h.len,fun r hr=>?_⟩;rcases mem_modify hr with h1 | ⟨y,h1,rfl⟩
 ·exact h.four r h1
 ·have h2:=h.four y h1;refine⟨by rw[length_modify];exact h2.1,fun q hq=>?_⟩;rcases mem_modify hq with h3 | ⟨z,h3,rfl⟩
  ·exact h2.2 q h3
  ·rw[length_set];exact h2.2 z h3
theorem aCm{r:List (List Bool)}(h:a[i]?=some r):sN a i j k=a.set i (r.modify j (fun q=>q.set k true)):=by
 unfold sN;apply ext_getElem?;intro q;rw[getElem?_modify,getElem?_set];by_cases hi:i=q
 ·subst hi;obtain⟨h1,h2⟩:=bU h;simp[h1,h2]
 ·simp[hi]
theorem OL.tell{w:World}{ga cap:Nat}(h:OL v su ap base O ka kw kh kd vs (Jn ga n cap) w){N:Nat}(hs:xU ap N)(hk:k<N)(hi:i<4)(hj:j<4):OL v su (sN ap k i j) base O ka kw kh kd vs (Jn ga n cap) (w.setCell (J ga (k*16+i*4+j)) (.bool true)):=by
 have hk2:k<ap.length:=by rw[hs.len];exact hk
 have h1:ap[k]?=some ap[k]:=bG hk2;have h4:=hs.four ap[k] (getElem_mem hk2);have hm:Mod (fun q=>q=ga) w (w.setCell (J ga (k*16+i*4+j)) (.bool true)):=(Mod.refl (fun q=>q=ga) w).setCell (a:=(J ga (k*16+i*4+j))) (fun _=>rfl) _;have key:∀{α:Type} {E:Enc α} {v:Value} {xs:List α},Row E w v xs->E.T≠251->Row E (w.setCell (J ga (k*16+i*4+j)) (.bool true)) v xs:=fun hr ht=>hr.mod hm (fun g hg e=>hr.apart h.ap ht hg (by rw[e];rfl))
 have hv:=h.vp;refine⟨h.blk.mod hm (fun e=>h.blk.apart h.ap (by decide) (by rw[e];rfl)),⟨hv.ok,hv.Xa,hv.n24,hv.nh,key hv.ah (by decide),key hv.wo (by decide),key hv.hi (by decide),key hv.de (by decide),hv.fa,hv.fw,hv.fh,hv.fd⟩,key h.su (by decide),?_⟩;rw[aCm h1,Nat.add_assoc];exact h.ap.put k (i*4+j) h1 (by show i*4+j<16;omega) (aD7 h4.1 h4.2 hi hj)
theorem Td(h:qp v su kind l next (n+1) x a g=some R):∃sx g1 a1,nS v su kind x l next=some sx∧qo v su kind l next x sx 4 0 a g=some (g1,a1)∧qp v su kind l next n (x+1) a1 g1=some R:=by
 rw[qp]at h;split at h
 ·cases h
 ·rename_i sx hsx;split at h
  ·cases h
  ·rename_i g1 a1 hy;exact⟨sx,g1,a1,hsx,hy,h⟩
theorem Tf{y:Nat}{sx:List UInt8 × Nat}(h:qo v su kind l next x sx (n+1) y a g=some R):∃sy d,nS v su kind y l next=some sy∧(if sx.1=sy.1 then xH a next sx.2 sy.2 else some true)=some d∧((d=false∧qo v su kind l next x sx n (y+1) a g=some R)∨(d=true∧∃c,xH a kind x y=some c∧((c=true∧qo v su kind l next x sx n (y+1) a g=some R)∨(c=false∧qo v su kind l next x sx n (y+1) (sN a kind x y) true=some R)))):=by
 rw[qo]at h;split at h
 ·cases h
 ·rename_i sy hsy;split at h
  ·cases h
  ·rename_i d hd;refine⟨sy,d,hsy,hd,?_⟩
   cases d with
   | false=>exact Or.inl ⟨rfl,by simpa using h⟩
   | true=>
    refine Or.inr ⟨rfl,?_⟩
    cases hc:xH a kind x y with
    | none=>rw[hc]at h;simp at h
    | some c=>
     refine⟨c,rfl,?_⟩
     cases c with
     | true=>exact Or.inl ⟨rfl,by rw[hc]at h;simpa using h⟩
     | false=>exact Or.inr ⟨rfl,by rw[hc]at h;simpa using h⟩
theorem Gu(hv:VOk v)(ht:tc<4)(h:nS v su kind tc l next=some r):r.2<4:=by
 have:=wE v hv kind tc l ht;unfold nS at h
 dsimp only at h
 split at h
 ·split at h
  ·have:=dY h;rw[<-this];assumption
  ·have:=dY h;rw[<-this];assumption
 ·cases h
theorem aAD(w:World)(v:M2.View)(su:bP)(ap:M2.Apart)(base O:Nat)(ka kw kh kd vs:Value)(ga n cap:Nat)(hO:OL v su ap base O ka kw kh kd vs (Jn ga n cap) w)(hn:n=v.k.ahead.length)(hs:Dq su n)(ha:xU ap n)(kind l next:Nat)(hk:kind<n)(hx:next<n)(hl:l<4){b':Bool}{ap':M2.Apart}(hM:qp v su kind l next 4 0 ap false=some (b',ap')):J1 127 #[Jx O 0,I kind,I l,I next] w fun e w'=>e=.returned (.bool b')∧OL v su ap' base O ka kw kh kd vs (Jn ga n cap) w'∧xU ap' n∧Mod (fun q=>q=ga) w w':=by
 have H50:=qH fun(wx:World) (a:M2.Apart) (tc:Nat) (r:List UInt8 × Nat) (hOx:OL v su a base O ka kw kh kd vs (Jn ga n cap) wx) (ht:tc<4) (hM:nS v su kind tc l next=some r)=>Ji wx v su a base O ka kw kh kd vs _ hOx (by rw[<-hn];exact hs) kind tc l next (by omega) ht hl hM
 have HV:=qH hO.vp.ok;have aIU:n<=24:=by rw[hn];exact hO.vp.n24
 have HO:=qH hO;have HA:=qH ha;have HM:=qH hM;have hki:(kind:Int)<n:=by omega
 have hxi:(next:Int)<n:=by omega
 clear hO hs ha hM hn;go_enter func127,ntmps127;go_wp2_with fail;go_loopg [9,10] 4 (fun gh v9 v10 wr=>∃(x:Nat) (b:Bool) (a:M2.Apart),x<=4∧gh=4-x∧v10=I x∧v9=.bool b∧qp v su kind l next gh x a b=some (b',ap')∧xU a n∧OL v su a base O ka kw kh kd vs (Jn ga n cap) wr∧Mod (fun q=>q=ga) w wr)
 case atStart=>exact⟨0,false,ap,by omega,rfl,rfl,rfl,HM.o,HA.o,HO.o,Mod.refl _ _⟩
 case round=>
  obtain⟨x,b,a,hx4,hgk,rfl,rfl,hgo,hak,hI,hm⟩:=hrel;have HI:=qH hI;have xA:=qH hm;have HAK:=qH hak
  match gk,hgk,hgo with
  | 0,hgk,hgo=>
   obtain rfl:x=4:=by omega
   have HB:Hd (b=b'∧a=ap'):=by
    have h:some (b,a)=some (b',ap'):=hgo;cases h;exact⟨rfl,rfl⟩
   have h44:¬((4:Nat):Int)<4:=by omega
   clear hgo hI hm hak hgk hx4 H50;go_wp2;go_ret;exact⟨by rw[<-HB.o.1];rfl,by rw[<-HB.o.2];exact HI.o,by rw[<-HB.o.2];exact HAK.o,xA.o⟩
  | g+1,hgk,hgo=>
   have hx:x<4:=by omega
   obtain⟨sx,g1,a1,hsx,hY,hX⟩:=Td hgo;have h50:=H50.o wr a x sx hI hx hsx;have hsl:=Gu HV.o hx hsx;obtain⟨SX,hSX⟩:=eX (⟨sx.1.toArray⟩:ByteArray);have HSX:=qH hSX;rw[<-hSX]at h50;have HYY:=qH hY;have HXX:=qH hX;have aHV:(x:Int)<4:=by omega
   clear hI hm hak hgo hY hX hsx hSX;go_wp2_with fail;refine h50.mono ?_;rintro e w1 ⟨rfl,m1⟩;have HI1:=qH (a2 (HI.o.no m1) (xA.o.no m1));go_wp2_with fail;go_loopg [9,13] 4 (fun gh v9 v13 wr=>∃(y:Nat) (b:Bool) (a:M2.Apart),y<=4∧gh=4-y∧v13=I y∧v9=.bool b∧qo v su kind l next x sx gh y a b=some (g1,a1)∧xU a n∧OL v su a base O ka kw kh kd vs (Jn ga n cap) wr∧Mod (fun q=>q=ga) w wr)
   case atStart=>exact⟨0,b,a,by omega,rfl,rfl,rfl,HYY.o,HAK.o,HI1.o.1,HI1.o.2⟩
   case round=>
    obtain⟨y,b,a,hy4,hgk,rfl,rfl,hgo,hak,hI,hm⟩:=hrel;have HI:=qH hI;have xA:=qH hm;have HAK:=qH hak
    match gk,hgk,hgo with
    | 0,hgk,hgo=>
     obtain rfl:y=4:=by omega
     have HB:Hd (b=g1∧a=a1):=by
      have h:some (b,a)=some (g1,a1):=hgo;cases h;exact⟨rfl,rfl⟩
     have h44:¬((4:Nat):Int)<4:=by omega
     clear hgo hI hm hak hgk hy4 H50;go_wp2;go_roundg g
     case measure=>omega
     case rel=>exact⟨x+1,g1,a1,by omega,by omega,by go_num,by rw[HB.o.1],HXX.o,by rw[<-HB.o.2];exact HAK.o,by rw[<-HB.o.2];exact HI.o,xA.o⟩
    | g'+1,hgk,hgo=>
     have hy:y<4:=by omega
     obtain⟨sy,d,hsy,hd,hcase⟩:=Tf hgo;have h50:=H50.o wr a y sy hI hy hsy;have hyl:=Gu HV.o hy hsy;obtain⟨SY,hSY⟩:=eX (⟨sy.1.toArray⟩:ByteArray);rw[<-hSY]at h50;have Gp:Hd (SX=SY↔sx.1=sy.1):=qH <| by
      rw[HSX.o,hSY];constructor
      ·intro h;injection h with h;have:=congrArg Array.toList h;simpa using this
      ·intro h;rw[h]
     have aHW:(y:Int)<4:=by omega
     have aHX:(sx.2:Int)<4:=by omega
     have aHY:(sy.2:Int)<4:=by omega
     have HD:Hd ((if sx.1=sy.1 then xH a next sx.2 sy.2 else some true)=some d):=hd;have qO:=qH hcase;clear hI hm hak hgo hsy hd hcase hSY;go_wp2_with fail;refine h50.mono ?_;rintro e w1 ⟨rfl,m1⟩;have HI1:=qH (a2 (HI.o.no m1) (xA.o.no m1));have o5:=HI1.o.1.blk.cell 5 rfl;generalize sx.2=LX at *;generalize sy.2=LY at *;have hsplit:(SX=SY∧xH a next LX LY=some d)∨(¬SX=SY∧d=true):=by
      by_cases hse:SX=SY
      ·refine Or.inl ⟨hse,?_⟩;have h:=HD.o;rw[aP (Gp.o.1 hse)]at h;exact h
      ·refine Or.inr ⟨hse,?_⟩;have h:=HD.o;rw[aU (fun e=>hse (Gp.o.2 e))]at h;exact(dY h).symm
     have aHZ:(LX:Int)<4:=by omega
     have aH0:(LY:Int)<4:=by omega
     rcases qO.o with ⟨rfl,hnx⟩ | ⟨rfl,c,hc,hcase⟩
     ·have HN:=qH hnx;rcases hsplit with ⟨rfl,hd⟩ | ⟨hse,hd⟩
      ·have cd:=pW HI1.o.1.ap hsl hyl hd;go_wp2;go_roundg g'
       case measure=>omega
       case rel=>exact⟨y+1,b,a,by omega,by omega,by go_num,rfl,HN.o,HAK.o,HI1.o.1,HI1.o.2⟩
      ·cases hd
     ·have cc:=pW HI1.o.1.ap hx hy hc;have fc:=HI1.o.1.ap.free (kind*16+x*4+y);rcases hcase with ⟨rfl,hnx⟩ | ⟨rfl,hnx⟩
      ·have HN:=qH hnx;rcases hsplit with ⟨rfl,hd⟩ | ⟨hse,hd⟩
       ·have cd:=pW HI1.o.1.ap hsl hyl hd;go_wp2;go_roundg g'
        case measure=>omega
        case rel=>exact⟨y+1,b,a,by omega,by omega,by go_num,rfl,HN.o,HAK.o,HI1.o.1,HI1.o.2⟩
       ·have aD8:¬SX.toList=SY.toList:=fun e=>hse (zh (by rw[<-toList_data,<-toList_data];exact e))
        have aD9:(SX.toList==SY.toList)=false:=by rw[beq_eq_false_iff_ne];exact aD8
        have aGH:(SX.toList != SY.toList)=true:=by rw[bne,aD9];rfl
        go_wp2;go_roundg g'
        case measure=>omega
        case rel=>exact⟨y+1,b,a,by omega,by omega,by go_num,rfl,HN.o,HAK.o,HI1.o.1,HI1.o.2⟩
      ·have HN:=qH hnx;have HI2:Hd (OL v su (sN a kind x y) base O ka kw kh kd vs (Jn ga n cap) (w1.setCell (J ga (kind*16+x*4+y)) (.bool true))∧Mod (fun q=>q=ga) w (w1.setCell (J ga (kind*16+x*4+y)) (.bool true))):=⟨HI1.o.1.tell HAK.o hk hx hy,HI1.o.2.setCell (a:=(J ga (kind*16+x*4+y))) (fun _=>rfl) _⟩;rcases hsplit with ⟨rfl,hd⟩ | ⟨hse,hd⟩
       ·have cd:=pW HI1.o.1.ap hsl hyl hd;go_wp2;go_roundg g'
        case measure=>omega
        case rel=>exact⟨y+1,true,_,by omega,by omega,by go_num,rfl,HN.o,HAK.o.set,HI2.o.1,HI2.o.2⟩
       ·have aD8:¬SX.toList=SY.toList:=fun e=>hse (zh (by rw[<-toList_data,<-toList_data];exact e))
        have aD9:(SX.toList==SY.toList)=false:=by rw[beq_eq_false_iff_ne];exact aD8
        have aGH:(SX.toList != SY.toList)=true:=by rw[bne,aD9];rfl
        go_wp2;go_roundg g'
        case measure=>omega
        case rel=>exact⟨y+1,true,_,by omega,by omega,by go_num,rfl,HN.o,HAK.o.set,HI2.o.1,HI2.o.2⟩
theorem Cf(v:M2.View)(hv:VOk v):∀(cs:List UInt8) (ks:List Nat) (acc:List UInt8) (tc:Nat),tc<=4->(oO v cs ks acc tc).1.length<=acc.length+4*cs.length
 | [],ks,acc,tc,_=>by simp[oO]
 | c::cs,[],acc,tc,_=>by simp[oO]
 | c::cs,k::ks,acc,tc,ht=>by
  rw[Gn];have h:=qM v hv k tc (aI.num c) ht;have:=Cf v hv cs ks (acc++(aW v k tc (aI.num c)).1) _ h.2;rw[length_append]at this;rw[length_cons];omega
theorem Gv(hv:VOk v){b:Nat}(ht:tc<=4)(h:qU v w b tc=some r):r.1.length<=4*w.length:=by
 unfold qU at h;split at h
 ·have:=dY h;rw[<-this];simp
 ·split at h
  ·cases h
  ·rename_i ks kb hk;have:=dY h;rw[<-this];have:=Cf v hv w ks [] tc ht;simpa using this
def rowAt(xs:List (List UInt8))(j:Nat):List (List UInt8):=xs.take j++replicate (4-j) []
theorem Ti{ws:List (List UInt8)}{R:bP}(hw:ws[i]?=some w)(h:oP v (ws.drop i)=some R):∃x R2,xq v w=some x∧oP v (ws.drop (i+1))=some R2∧R=x::R2:=by
 obtain⟨h1,h2⟩:=bU hw;rw[kJ h1,h2,oP]at h;split at h
 ·cases h
 ·rename_i x hx;cases hq:oP v (ws.drop (i+1))with
  | none=>rw[hq]at h;cases h
  | some R2=>rw[hq]at h;exact⟨x,R2,hx,rfl,(dY h).symm⟩
theorem QK{x:List (List UInt8)}(h:xq v w=some x):x.length=4∧∀j,j<4->∃r,qU v w 0 j=some r∧x[j]?=some r.1:=by
 unfold xq at h;split at h
 ·rename_i a b c d ha hb hc hd;have h:=dY h;rw[<-h];refine⟨rfl,fun j hj=>?_⟩
  match j,hj with
  | 0,_=>exact⟨a,ha,rfl⟩
  | 1,_=>exact⟨b,hb,rfl⟩
  | 2,_=>exact⟨c,hc,rfl⟩
  | 3,_=>exact⟨d,hd,rfl⟩
 ·cases h
theorem rowAt_set{x:List UInt8}(h4:xs.length=4)(hj:j<4)(hx:xs[j]?=some x):(rowAt xs j).set j x=rowAt xs (j+1):=by
 match xs,h4 with
 | [a,b,c,d],_=>
  match j,hj,hx with
  | 0,_,hx=>cases hx;rfl
  | 1,_,hx=>cases hx;rfl
  | 2,_,hx=>cases hx;rfl
  | 3,_,hx=>cases hx;rfl
theorem Jj(h4:xs.length=4)(hj:j<=4):(rowAt xs j).length=4:=by
 unfold rowAt;simp;omega
theorem Tj(h4:xs.length=4):rowAt xs 4=xs:=by
 unfold rowAt;rw[take_of_length_le (by omega)];simp
theorem OL.grow{va:Value}{w w7:World}(h:OL v su ap base O ka kw kh kd vs va w){v2:Value}{s2:bP}(hg:w.grownBy w7 vs.ownBlock)(hrow:Row SuE w7 v2 s2):OL v s2 ap base O ka kw kh kd v2 va (w7.setCell (J O 4) v2):=by
 have hB:=h.blk.grown hg (fun e=>h.blk.apart h.su (by decide) e.symm);have key:∀{α:Type} {E:Enc α} {v:Value} {xs:List α},Row E w v xs->E.T≠101->E.T≠150->Row E (w7.setCell (J O 4) v2) v xs:=fun hr ht ht2=>(hr.grown hg (hr.far h.su ht)).other (a:=J O 4) (hB.apart (hr.grown hg (hr.far h.su ht)) (fun e=>ht2 e.symm)) _
 have hv:=h.vp;exact⟨hB.set 4 v2,⟨hv.ok,hv.Xa,hv.n24,hv.nh,key hv.ah (by decide) (by decide),key hv.wo (by decide) (by decide),key hv.hi (by decide) (by decide),key hv.de (by decide) (by decide),hv.fa,hv.fw,hv.fh,hv.fd⟩,hrow.other (a:=J O 4) (hB.apart hrow (by decide)) _,key h.ap (by decide) (by decide)⟩
theorem QL{f:Nat}{R:bP}(h:lY v (f+1) s=some R):∃b s2,Dw v v.k.ahead 0 s false=some (b,s2)∧((b=true∧lY v f s2=some R)∨(b=false∧s2=R)):=by
 rw[lY]at h;split at h
 ·cases h
 ·rename_i b s2 hc;refine⟨b,s2,hc,?_⟩
  cases b with
  | true=>exact Or.inl ⟨rfl,by simpa using h⟩
  | false=>exact Or.inr ⟨rfl,by simpa using h⟩
theorem Xb{rs:List aI.R4}{r:aI.R4}{R:Bool × bP}(hr:rs[k]?=some r)(h:Dw v (rs.drop k) k s b=some R):∃b2 s2,DJ v k r 4 s b=some (b2,s2)∧Dw v (rs.drop (k+1)) (k+1) s2 b2=some R:=by
 obtain⟨h1,h2⟩:=bU hr;rw[kJ h1,h2,Dw]at h;split at h
 ·cases h
 ·rename_i b2 s2 hl;exact⟨b2,s2,hl,h⟩
theorem Xc{r:aI.R4}{R:Bool × bP}(h:DJ v k r (n+1) s b=some R):∃longer x s2,r.get (3-n)=some longer∧oQ v longer (3-n) k 4 0 s false=some (x,s2)∧DJ v k r n s2 (b||x)=some R:=by
 rw[DJ]at h;split at h
 ·cases h
 ·rename_i longer hg;split at h
  ·cases h
  ·rename_i x s2 hc;exact⟨longer,x,s2,hg,hc,h⟩
theorem aFp(N0 N1 N2 N3:Int)(w:World):(Instr.index 102 (.agg #[I N0,I N1,I N2,I N3]) (I 0)).run prog w=.ok (I N0) w:=by kernel_rfl
theorem aFq(N0 N1 N2 N3:Int)(w:World):(Instr.index 102 (.agg #[I N0,I N1,I N2,I N3]) (I 1)).run prog w=.ok (I N1) w:=by kernel_rfl
theorem aFr(N0 N1 N2 N3:Int)(w:World):(Instr.index 102 (.agg #[I N0,I N1,I N2,I N3]) (I 2)).run prog w=.ok (I N2) w:=by kernel_rfl
theorem aFs(N0 N1 N2 N3:Int)(w:World):(Instr.index 102 (.agg #[I N0,I N1,I N2,I N3]) (I 3)).run prog w=.ok (I N3) w:=by kernel_rfl
theorem ixR(r:aI.R4)(j k:Nat)(hj:j<4)(hk:r.get j=some k)(w:World):(Instr.index 102 (.agg #[I r.a,I r.b,I r.c,I r.d]) (I j)).run prog w=.ok (I k) w:=by
 match j,hj,hk with
 | 0,_,hk=>have e:r.a=k:=dY hk;rw[<-e];exact aFp _ _ _ _ w
 | 1,_,hk=>have e:r.b=k:=dY hk;rw[<-e];exact aFq _ _ _ _ w
 | 2,_,hk=>have e:r.c=k:=dY hk;rw[<-e];exact aFr _ _ _ _ w
 | 3,_,hk=>have e:r.d=k:=dY hk;rw[<-e];exact aFs _ _ _ _ w
theorem aJO:(prog.info? 101).map (fun i=>(i.zero,i.size,i.bytes))=some (some (.agg #[.string ⟨#[]⟩,.string ⟨#[]⟩,.string ⟨#[]⟩,.string ⟨#[]⟩]),4,64):=by kernel_rfl
structure aB(w:World)(v:M2.View)(su:bP)(base O:Nat)(ka kw kh kd vs:Value)(wr:World):Prop where
 ol:OL v su [] base O ka kw kh kd vs aH wr
 md:Mod (fun q=>q=O) w wr
 fs:∀g,vs.ownBlock=some g->w.heap.size<=g
theorem aB.no{w:World}{wr wr':World}(h:aB w v su base O ka kw kh kd vs wr)(hm:Mod No wr wr'):aB w v su base O ka kw kh kd vs wr':=⟨h.ol.no hm,h.md.no hm,h.fs⟩
theorem Lp(w:World)(v:M2.View)(base O:Nat)(ka kw kh kd:Value)(hO:OL v [] [] base O ka kw kh kd aH aH w){s0 s1:bP}(h0:oP v v.k.words=some s0)(h1:lY v 10000 s0=some s1):J1 92 #[Jx O 0] w fun e w'=>e=.returned (.tuple #[])∧∃vs,aB w v s1 base O ka kw kh kd vs w'∧Dq s1 v.k.ahead.length:=by
 have hvp:=hO.vp;obtain⟨n,hn⟩:=eX v.k.ahead.length;have hnw:v.k.words.length=n:=by rw[hvp.Xa.len,hvp.nh];exact hn.symm
 have hn0:0<n:=by rw[hn,<-hvp.nh];exact hvp.Xa.pos
 have aIU:n<=24:=by rw[hn];exact hvp.n24
 obtain⟨a1,c1,e1,-,-⟩:=hvp.ah.open hn.symm;obtain⟨gw,cw,e2,-,-⟩:=hvp.wo.form (by omega);rw[hnw]at e2;obtain⟨a3,c3,e3,-,-⟩:=hvp.hi.open (n:=n) (by rw[hvp.nh];exact hn.symm);obtain⟨a4,c4,e4,-,-⟩:=hvp.de.open (n:=n) (by rw[hvp.ok.len];exact hn.symm);have H75:Hd (∀(wx:World) (x:List UInt8) (tc:Nat) (r:List UInt8 × Nat),VP v base ka kw kh kd wx->x.length<=1000->tc<4->qU v x 0 tc=some r->J1 125 #[.agg #[ka,kw,kh,kd],.string ⟨x.toArray⟩,I 0,I tc] wx fun e w'=>e=.returned (.tuple #[.string ⟨r.1.toArray⟩,I r.2])∧Mod No wx w'):=fun wx x tc r hx hl ht hM=>zy wx ka kw kh kd v hx.ok ⟨x.toArray⟩ 0 tc hx.wo.sl hx.hi.sl hx.ah hx.de (by rw[aZ];omega) (by omega) (by omega) (by simpa using hM)
 have H76:=qH fun(wx:World) (su:bP) (gs:Nat) (cap:Nat) (kind:Nat) (l:Nat) (next:Nat) (b':Bool) (su':bP) (hOx:OL v su [] base O ka kw kh kd (Jn gs n cap) aH wx) (hs:Dq su n) (hk:kind<n) (hl:l<4) (hM:oQ v kind l next 4 0 su false=some (b',su'))=>aCl wx v su [] base O ka kw kh kd aH gs n cap hOx hn hs kind l next hk hl hM
 have HV:Hd (VOk v∧n=v.k.ahead.length∧v.k.words.length=n∧(∀x∈v.k.words,x.length<=v.k.words.length)):=⟨hvp.ok,hn,hnw,hvp.Xa.wl⟩;have HE:Hd (ka=.slice a1 n c1∧kw=Jn gw n cw∧kh=.slice a3 n c3∧kd=.slice a4 n c4):=⟨e1,e2,e3,e4⟩;have HI0:Hd (aB w v [] base O ka kw kh kd aH w):=⟨hO,Mod.refl _ _,fun g hg=>by cases hg⟩;have H0:Hd (oP v (v.k.words.drop 0)=some s0):=h0;have H1:=qH h1;have o1:=hO.blk.cell 1 rfl;rw[e2]at o1;rw[<-hn];clear hvp hO h0 h1 hn hnw e1 e2 e3 e4;go_enter func92,ntmps92;go_wp2_with fail;go_loopg [19] n (fun gh v19 wr=>∃(i:Nat) (su R:bP) (vs:Value),i<=n∧gh=n-i∧v19=I i∧aB w v su base O ka kw kh kd vs wr∧Dq su i∧oP v (v.k.words.drop i)=some R∧su++R=s0)
 case atStart=>exact⟨0,[],s0,aH,by omega,by omega,rfl,HI0.o,⟨rfl,(fun r hr=>by cases hr),(fun r hr=>by cases hr)⟩,H0.o,rfl⟩
 case round=>
  obtain⟨i,su,R,vs,hin,hgk,rfl,hI,hsk,hR,hsR⟩:=hrel;have HI:=qH hI;have qN:=qH hsk;by_cases hlt:i<n
  ·obtain⟨x,hx⟩:∃x,v.k.words[i]?=some x:=⟨v.k.words[i]'(by have:=HV.o.2.2.1;omega),bG _⟩;obtain⟨xs,R2,hxs,hR2,hRR⟩:=Ti hx hR;have hxl:x.length<=24:=by have:=HV.o.2.2.2 x (iI hx);rw[HV.o.2.2.1]at this;omega
   have hspec:=QK hxs;have hrw:=hI.ol.vp.wo;rw[HE.o.2.1]at hrw;have cw':=Jf.cell hrw hx;obtain⟨a5,c5,h5,-,hown⟩:=hI.ol.su.open hsk.len;have o4:=hI.ol.blk.cell 4 rfl;rw[h5]at o4;have HVS:=qH h5;have HX:Hd (xs.length=4∧∀j,j<4->∃r,qU v x 0 j=some r∧xs[j]?=some r.1):=hspec;have HXS:Hd (∀y∈xs,y.length<=1000):=fun y hy=>by
    obtain⟨q,hq⟩:=mem_iff_getElem?.1 hy;have hq4:q<4:=by have:=(bU hq).1;rw[hspec.1]at this;exact this
    obtain⟨r,hr,hr2⟩:=hspec.2 q hq4;rw[hq]at hr2;have:=Gv HV.o.1 (by omega) hr;rw[<-dY hr2]at this;omega
   have HR2:Hd (oP v (v.k.words.drop (i+1))=some R2∧su++[xs]++R2=s0):=⟨hR2,by rw[<-hsR,hRR];simp⟩;obtain⟨i0,af,hz0,hz1,hz2⟩:=info_parts aJO;have hii:(i:Int)<n:=by omega
   have hlt0:=hI.ol.blk.lt;have f4:=hI.ol.blk.free 4;have hOs:some O≠vs.ownBlock:=fun e=>hI.ol.blk.apart hI.ol.su (by decide) e.symm
   rw[h5]at hOs;have HXL:=qH hxl;have hown:wr.ownsRow 0 101 4 (.slice a5 i c5) i (su.flatMap SuE.f):=hown;go_wp2_with (at_builtin;refine wpList_append_lies _ rfl _ _ 147 rfl 0 101 i0 _ 4 64 underlying147 af hz0 hz1 hz2 rfl (by omega) (.slice a5 i c5) i (su.flatMap SuE.f) rfl (hown.alloc _) (J wr.heap.size 0) 1 1 [.string ⟨#[]⟩,.string ⟨#[]⟩,.string ⟨#[]⟩,.string ⟨#[]⟩] rfl rfl (World.news_of_block (cs:=#[.string ⟨#[]⟩,.string ⟨#[]⟩,.string ⟨#[]⟩,.string ⟨#[]⟩]) (t:=101) (fr:=(0,0)) (heap_alloc_new wr _)) (by intro u hu;simp at hu;rw[hu];rfl) (by omega) (by unfold maxLen;omega) (by omega) (by simp) (wr.heap.size+1) (by simp) ?_);intro gg cap2 w4 hown4 hgrow hat fJ;have Ae:Mod No wr (wr.alloc (.cells #[.string ⟨#[]⟩,.string ⟨#[]⟩,.string ⟨#[]⟩,.string ⟨#[]⟩] 101)):=(Mod.refl _ _).alloc _;have zk:=HI.o.no Ae;have hr4:Row SuE w4 (Jn gg (i+1) cap2) (su++[rowAt xs 0]):=jq qN.o.len rfl hown4;have hf4:aN (wr.alloc (.cells #[.string ⟨#[]⟩,.string ⟨#[]⟩,.string ⟨#[]⟩,.string ⟨#[]⟩] 101)) vs (Jn gg (i+1) cap2):=gW (H:=wr.heap.size+1) (by rw[HVS.o];exact hat) (by simp);have hB4:=zk.ol.blk.grown hgrow hOs;have b4:=hB4.cell 4 rfl;rw[HVS.o]at b4;have g4:=hB4.free 4;have uF:Hd (aB w v (su++[rowAt xs 0]) base O ka kw kh kd (Jn gg (i+1) cap2) (w4.setCell (J O 4) (Jn gg (i+1) cap2))):=by
    refine⟨zk.ol.grow (by rw[HVS.o];exact hgrow) hr4,?_,fun g hg=>?_⟩
    ·have hm4:Mod (fun q=>q=O) w w4:=zk.md.grown hgrow (fun g e hlt2=>by
      have:=HI.o.fs g (by rw[HVS.o];exact e);omega)
     exact hm4.setCell (a:=J O 4) (fun _=>rfl) _
    ·rcases hf4 g hg with e | e
     ·exact HI.o.fs g e
     ·have:=zk.md.size;omega
   obtain⟨w5,hw5⟩:∃w5,w4.setCell (J O 4) (Jn gg (i+1) cap2)=w5:=⟨_,rfl⟩;rw[hw5]at uF;go_wp2_with fail;go_loopg [34] 4 (fun gh v34 wr=>∃j:Nat,j<=4∧gh=4-j∧v34=I j∧aB w v (su++[rowAt xs j]) base O ka kw kh kd (Jn gg (i+1) cap2) wr)
   case atStart=>exact⟨0,by omega,rfl,rfl,uF.o⟩
   case round=>
    obtain⟨j,hj4,hgj,rfl,hI⟩:=hrel;have HI:=qH hI;by_cases hj:j<4
    ·obtain⟨r,hr,hxj⟩:=HX.o.2 j hj;have h75:=H75.o wr x j r hI.ol.vp (by have:=HXL.o;omega) hj hr;have hrs:=Gv HV.o.1 (by omega) hr;have HXJ:Hd (xs[j]?=some r.1∧r.1.length<=1000):=⟨hxj,by have:=HXL.o;omega⟩;have o0:=hI.ol.blk.cell 0 rfl;have o1:=hI.ol.blk.cell 1 rfl;have o2:=hI.ol.blk.cell 2 rfl;have o3:=hI.ol.blk.cell 3 rfl;rw[HE.o.1]at o0 h75;rw[HE.o.2.1]at o1 h75;rw[HE.o.2.2.1]at o2 h75;rw[HE.o.2.2.2]at o3 h75;have hji:(j:Int)<4:=by omega
     go_wp2_with fail;refine h75.mono ?_;rintro e w6 ⟨rfl,m6⟩;have BD:=qH (HI.o.no m6);have hget:lU (su++[rowAt xs j]) i j=some ((rowAt xs j)[j]'(by rw[Jj HX.o.1 (by omega)];exact hj)):=by
      unfold lU;rw[mW (by rw[qN.o.len];omega),qN.o.len,Nat.sub_self];show (rowAt xs j)[j]?=_;rw[bG]
     have aFt:Dq (su++[rowAt xs j]) (i+1):=by
      refine⟨by simp[qN.o.len],fun q hq=>?_,fun q hq y hy=>?_⟩
      ·rcases mem_append.1 hq with h | h
       ·exact qN.o.four q h
       ·rw[mem_singleton.1 h];exact Jj HX.o.1 (by omega)
      ·rcases mem_append.1 hq with h | h
       ·exact qN.o.sm q h y hy
       ·rw[mem_singleton.1 h]at hy;unfold rowAt at hy;rcases mem_append.1 hy with h2 | h2
        ·exact HXS.o y (mem_of_mem_take h2)
        ·rw[eq_of_mem_replicate h2];simp
     have AY:Hd (aB w v (su++[rowAt xs (j+1)]) base O ka kw kh kd (Jn gg (i+1) cap2) (w6.setCell (J gg (i*4+j)) (.string ⟨r.1.toArray⟩))):=by
      have hq:=BD.o.ol.cut aFt hget r.1 hj;have e:M2.set2 (su++[rowAt xs j]) i j r.1=su++[rowAt xs (j+1)]:=by
       rw[WA (r:=rowAt xs j) _ (by rw[mW (by rw[qN.o.len];omega),qN.o.len,Nat.sub_self];rfl),rowAt_set HX.o.1 hj HXJ.o.1,set_append_right _ _ (by rw[qN.o.len];omega),qN.o.len,Nat.sub_self];rfl
      rw[e]at hq;exact⟨hq,BD.o.md.setCell (a:=(J gg (i*4+j))) (fun h=>absurd h (by have:=BD.o.fs gg rfl;show ¬gg<w.heap.size;omega)) _,BD.o.fs⟩
     have q4:=BD.o.ol.blk.cell 4 rfl;have cj:=rV BD.o.ol.su hj hget;have fj:=BD.o.ol.su.free (i*4+j);have hii2:(i:Int)<((i+1:Nat):Int):=by omega
     have aH1:(i:Int)<i+1:=by omega
     go_wp2;go_roundg (4-(j+1))
     case measure=>omega
     case rel=>exact⟨j+1,by omega,rfl,by go_num,AY.o⟩
    ·obtain rfl:j=4:=by omega
     have h44:¬((4:Nat):Int)<4:=by omega
     go_wp2;go_roundg (n-(i+1))
     case measure=>omega
     case rel=>exact⟨i+1,su++[xs],R2,_,by omega,rfl,by go_num,by have h:=HI.o;rw[Tj HX.o.1]at h;exact h,⟨by simp[qN.o.len],fun q hq=>(by
      rcases mem_append.1 hq with h | h
      ·exact qN.o.four q h
      ·rw[mem_singleton.1 h];exact HX.o.1),fun q hq y hy=>(by
      rcases mem_append.1 hq with h | h
      ·exact qN.o.sm q h y hy
      ·rw[mem_singleton.1 h]at hy;exact HXS.o y hy)⟩,HR2.o.1,HR2.o.2⟩
  ·obtain rfl:i=n:=by omega
   have e1:=drop_of_length_le (by rw[HV.o.2.2.1];omega);rw[e1,oP]at hR;have hR0:([]:bP)=R:=dY hR;rw[<-hR0,append_nil]at hsR;subst hsR;obtain⟨gs,cs,h5,-,-⟩:=hI.ol.su.form (by rw[hsk.len];omega);rw[hsk.len]at h5;subst h5;have hfs:=hI.fs gs rfl;have hii:¬(i:Int)<i:=by omega
   go_wp2_with fail;go_loopg [7] 10001 (fun gh v7 wr=>∃(b:Bool) (s:bP),v7=.bool b∧aB w v s base O ka kw kh kd (Jn gs i cs) wr∧Dq s i∧((b=true∧∃f,gh=f+1∧lY v f s=some s1)∨(b=false∧s=s1)))
   case atStart=>exact⟨true,su,rfl,HI.o,qN.o,Or.inl ⟨rfl,10000,rfl,H1.o⟩⟩
   case round=>
    obtain⟨b,s,rfl,hI,hsk,hb⟩:=hrel;have HI:=qH hI;have qN:=qH hsk;rcases hb with ⟨rfl,f,hgf,hall⟩ | ⟨rfl,rfl⟩
    ·match f,hgf,hall with
     | 0,hgf,hall=>cases hall
     | f+1,hgf,hall=>
      obtain⟨b2,s2,hK,hend⟩:=QL hall;have HK:Hd (Dw v (v.k.ahead.drop 0) 0 s false=some (b2,s2)):=hK;have ny:=qH hend;have o0:=hI.ol.blk.cell 0 rfl;rw[HE.o.1]at o0;go_wp2_with fail;go_loopg [7,66] i (fun gh v7 v66 wr=>∃(k:Nat) (b:Bool) (s:bP),k<=i∧gh=i-k∧v66=I k∧v7=.bool b∧aB w v s base O ka kw kh kd (Jn gs i cs) wr∧Dq s i∧Dw v (v.k.ahead.drop k) k s b=some (b2,s2))
      case atStart=>exact⟨0,false,s,by omega,by omega,rfl,rfl,HI.o,qN.o,HK.o⟩
      case round=>
       obtain⟨k,b,s,hki,aGI,rfl,rfl,hI,hsk,hK⟩:=hrel;have HI:=qH hI;have qN:=qH hsk;by_cases hkl:k<i
       ·obtain⟨r,hr⟩:∃r,v.k.ahead[k]?=some r:=⟨v.k.ahead[k]'(by have:=HV.o.2.1;omega),bG _⟩;obtain⟨b3,s3,hL,hK2⟩:=Xb hr hK;have hra:=hI.ol.vp.ah;rw[HE.o.1]at hra;obtain⟨ga,hga⟩:∃g,a1=some (J g 0):=by
         obtain⟨g2,c2,h2,-⟩:=hI.ol.vp.ah.form (by have:=HV.o.2.1;omega);rw[HE.o.1]at h2;injection h2 with h2 _;exact⟨g2,h2⟩
        subst hga;have r0:wr.cell? (J ga (k*4))=some (I r.a):=hra.cell k 0 hr rfl;have r1:wr.cell? (J ga (k*4+1))=some (I r.b):=hra.cell k 1 hr rfl;have r2:wr.cell? (J ga (k*4+2))=some (I r.c):=hra.cell k 2 hr rfl;have r3:wr.cell? (J ga (k*4+3))=some (I r.d):=hra.cell k 3 hr rfl;have HL:=qH hL;have HK2:=qH hK2;have aEa:Hd (∀l q,r.get l=some q->q<i):=fun l q hq=>by have:=HV.o.1.ent r (iI hr) l q hq;have:=HV.o.2.1;omega
        have aGJ:(k:Int)<i:=by omega
        have HI1:Hd (aB w v s base O ka kw kh kd (Jn gs i cs) (wr.alloc (.cells #[I r.a,I r.b,I r.c,I r.d] 102))):=HI.o.no ((Mod.refl _ _).alloc _);go_wp2_with fail;generalize wr.alloc (.cells #[I r.a,I r.b,I r.c,I r.d] 102)=W1 at HI1 ⊢;go_loopg [7,72] 4 (fun gh v7 v72 wr=>∃(l:Nat) (b:Bool) (s:bP),l<=4∧gh=4-l∧v72=I l∧v7=.bool b∧aB w v s base O ka kw kh kd (Jn gs i cs) wr∧Dq s i∧DJ v k r gh s b=some (b3,s3))
        case atStart=>exact⟨0,b,s,by omega,rfl,rfl,rfl,HI1.o,qN.o,HL.o⟩
        case round=>
         obtain⟨l,b,s,hl4,hgl,rfl,rfl,hI,hsk,hL⟩:=hrel;have HI:=qH hI;have qN:=qH hsk
         match gk,hgl,hL with
         | 0,hgl,hL=>
          obtain rfl:l=4:=by omega
          have HB:Hd (b=b3∧s=s3):=by
           have h:some (b,s)=some (b3,s3):=hL;cases h;exact⟨rfl,rfl⟩
          have h44:¬((4:Nat):Int)<4:=by omega
          clear hL hI hsk hgl hl4 H76;go_wp2;go_roundg (i-(k+1))
          case measure=>omega
          case rel=>exact⟨k+1,b3,s3,by omega,rfl,by go_num,by rw[HB.o.1],by rw[<-HB.o.2];exact HI.o,by rw[<-HB.o.2];exact qN.o,HK2.o⟩
         | g+1,hgl,hL=>
          obtain⟨longer,x,s4,hget,hc,hL2⟩:=Xc hL;obtain rfl:l=3-g:=by omega
          have hl3:3-g<4:=by omega
          have h76:=H76.o wr s gs cs longer (3-g) k x s4 hI.ol hsk (aEa.o _ _ hget) hl3 hc;have hix:=ixR r (3-g) longer hl3 hget;have HL2:=qH hL2;have yZ:((3-g:Nat):Int)<4:=by omega
          obtain⟨L,hLL⟩:=eX (3-g);rw[<-hLL]at h76 hix yZ hgl hl4 ⊢;clear hI hsk hL hL2 hc hget hLL;go_wp2_with fail;refine h76.mono ?_;rintro e w3 ⟨rfl,ho3,hs3,m3⟩;have HI3:Hd (aB w v s4 base O ka kw kh kd (Jn gs i cs) w3∧Dq s4 i):=⟨⟨ho3,HI.o.md.trans' m3 (fun q hq e=>by omega),HI.o.fs⟩,hs3⟩
          cases x with
          | true=>
           have HL3:Hd (DJ v k r g s4 true=some (b3,s3)):=by have h:=HL2.o;rw[Bool.or_true]at h;exact h
           go_wp2;go_roundg g
           case measure=>omega
           case rel=>exact⟨L+1,true,s4,by omega,by omega,by go_num,rfl,HI3.o.1,HI3.o.2,HL3.o⟩
          | false=>
           have HL3:Hd (DJ v k r g s4 b=some (b3,s3)):=by have h:=HL2.o;rw[Bool.or_false]at h;exact h
           go_wp2;go_roundg g
           case measure=>omega
           case rel=>exact⟨L+1,b,s4,by omega,by omega,by go_num,rfl,HI3.o.1,HI3.o.2,HL3.o⟩
       ·obtain rfl:k=i:=by omega
        have e1:v.k.ahead.drop k=[]:=drop_of_length_le (by have:=HV.o.2.1;omega);rw[e1,Dw]at hK;have HB:Hd (b=b2∧s=s2):=by
         have h:=hK;cases h;exact⟨rfl,rfl⟩
        have hkk:¬(k:Int)<k:=by omega
        go_wp2;go_roundg (f+1)
        case measure=>omega
        case rel=>
         refine⟨b2,s2,by rw[HB.o.1],by rw[<-HB.o.2];exact HI.o,by rw[<-HB.o.2];exact qN.o,?_⟩;rcases ny.o with ⟨h1,h2⟩ | h
         ·exact Or.inl ⟨h1,f,rfl,h2⟩
         ·exact Or.inr h
    ·clear hI hsk H76;go_wp2;go_end0;exact⟨rfl,_,HI.o,qN.o⟩
end Go.Proofs.YtoebidlghdidoaaGreatDoor
