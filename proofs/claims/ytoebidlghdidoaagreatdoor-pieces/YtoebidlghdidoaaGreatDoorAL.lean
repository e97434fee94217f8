import Derived.Test.YtoebidlghdidoaaGreatDoorAK
import Derived.Deep.LoopGhost
import Derived.Deep.CutRange
import Derived.Deep.OwnRows
set_option maxHeartbeats 4000000
set_option maxRecDepth 100000
namespace Go.Proofs.YtoebidlghdidoaaGreatDoor
open Ld Th M2 aI
open Tryz List Go.RowKit
attribute [local go_sem ↓] Go.wp_at_zero Go.wp_at_succ
variable {g T n i cap b:Nat} {v:Value} {cs:List Value} {x y:aI.Piece} {ps:List aI.Place} {w:World} {xs:List Bool}
theorem toList_data(s:ByteArray):s.toList=s.data.toList:=by
 have:=Lib.extract_toList s 0 s.size;have h2:s.extract 0 s.size=s:=by simp
 rw[h2]at this;rw[this,drop_zero,Nat.sub_zero];refine take_of_length_le ?_;show s.data.toList.length<=s.data.size;simp
theorem fG(s:ByteArray):s.toList.isEmpty=decide (s.size=0):=by
 rw[toList_data]
 cases h:s.data.toList with
 | nil=>
  have:s.size=0:=by show s.data.size=0;rw[<-Array.length_toList,h];rfl
  simp[this]
 | cons a l=>
  have:¬s.size=0:=by show ¬s.data.size=0;rw[<-Array.length_toList,h];simp
  simp[this]
theorem zh{a b:ByteArray}(h:a.data.toList=b.data.toList):a=b:=by
 obtain⟨⟨a⟩⟩:=a;obtain⟨⟨b⟩⟩:=b;exact congrArg (fun l=>(⟨⟨l⟩⟩:ByteArray)) h
theorem extract_data(s:ByteArray)(i j:Nat):(s.extract i j).data.toList=(s.data.toList.drop i).take (j-i):=by
 rw[<-toList_data];exact Lib.extract_toList s i j
theorem CZ(s:ByteArray)(k:Nat)(h:k<s.size):s.extract k (k+1)=⟨#[s[k]]⟩:=by
 refine zh ?_;rw[extract_data];have hk:k<s.data.toList.length:=by simpa using h
 rw[kJ hk,show k+1-k=1 by omega];rfl
theorem bK(s:ByteArray):s.data.toList.length=s.size:=by simp
def b4C(t:List Bool):List Value:=[.bool (t.getD 0 false),.bool (t.getD 1 false),.bool (t.getD 2 false),.bool (t.getD 3 false)]
theorem aB1(t:List Bool)(h:t.length=4)(i:Nat)(hi:i<4)(x:Bool):b4C (t.set i x)=(b4C t).set i (.bool x):=by
 match t,h with
 | [a,b,c,d],_=>match i,hi with
  | 0,_=>rfl
  | 1,_=>rfl
  | 2,_=>rfl
  | 3,_=>rfl
theorem Vj{t:List Bool}(h:t.length=4):∃a b c d,t=[a,b,c,d]:=by
 match t,h with
 | [a,b,c,d],_=>exact⟨a,b,c,d,rfl⟩
theorem SH(l:List UInt8)(c:UInt8):∀t,aI.allOf (l++[c]) t=(aI.allOf l t).set (aI.num c) true:=by
 induction l with
 | nil=>intro t;rfl
 | cons a l ih=>intro t;exact ih _
theorem J4(l:List UInt8):∀t,(aI.allOf l t).length=t.length:=by
 induction l with
 | nil=>intro t;rfl
 | cons a l ih=>intro t;exact(ih _).trans (by simp)
theorem wZ(s:ByteArray)(w:World)(hs:s.size<=1048576):J1 115 #[.string s] w fun e w'=>e=.returned (Y4 (aI.allOf s.data.toList aX))∧Mod No w w':=by
 obtain⟨l,hl⟩:=eX s.data.toList;have zf:Hd (s.size=l.length):=qH <| by rw[hl,bK]
 have HG:Hd (∀(i:Nat) (h:i<s.size),l[i]?=some s[i]):=fun i h=>by rw[hl];exact Lib.data_getElem? s i h
 rw[<-hl];have Oh:=qH jd;go_enter func115,ntmps115;go_wp2
 go_loopw [4] (fun ii wr=>∃(i:Nat),i<=s.size∧ii=I i∧aG wr (w.heap.size+1) (b4C (aI.allOf (l.take i) aX)) 239∧aG wr w.heap.size [.bool false,.bool false,.bool false,.bool false] 239∧Mod No w wr) (fun ii _=>s.size-(intOf ii).toNat)
 case atStart=>exact⟨0,by omega,rfl,fE _ _ _,gq _ _ _,((Mod.refl _ _).alloc _).alloc _⟩
 case round=>
  obtain⟨i,hi,rfl,hb,hr,hm⟩:=hrel;have h4:(aI.allOf (l.take i) aX).length=4:=J4 _ _;generalize ht:aI.allOf (l.take i) aX=t at hb h4;by_cases hlt:i<s.size
  ·have hi1:(i:Int)<s.size:=by omega
   have hx:=HG.o i hlt;generalize hc:s[i]=c at hx;have hnl:=aIE c;have hcall:=Oh.o c;have HT:Hd (aI.allOf (l.take (i+1)) aX=t.set (aI.num c) true):=qH <| by
    rw[take_add_one,hx,<-ht];exact SH _ _ _
   have HB:=qH hb;have HR:=qH hr;have HM:=qH hm;generalize hk:aI.num c=k at hnl hcall HT;have e:∃v,(b4C t)[k]?=some v:=⟨(b4C t)[k]'(by simp[b4C];omega),bG _⟩;obtain⟨v,hv⟩:=e;have ck:=hb.cell k hv;have fk:=hb.free k;have hk4:(k:Int)<4:=by omega
   go_wp2_with fail;refine(hcall _).mono ?_;rintro e w1 ⟨rfl,rfl⟩;go_wp2
   go_roundw
   case rel=>
    refine⟨i+1,by omega,by go_num,?_,HR.o.other (a:=⟨w.heap.size+1,k,none⟩) (by simp) _,HM.o.setCell (a:=⟨w.heap.size+1,k,none⟩) (fun h=>absurd h (by simp)) _⟩;rw[HT.o,aB1 t h4 k hnl true];exact HB.o.set k _
   case measure=>simp[intOf];omega
  ·obtain rfl:i=s.size:=by omega
   have HT:Hd (aI.allOf l aX=t):=qH <| by
    rw[<-ht,take_of_length_le (by have:=zf.o;omega)]
   obtain⟨x0,x1,x2,x3,rfl⟩:=Vj h4;change aG wr (w.heap.size+1) [.bool x0,.bool x1,.bool x2,.bool x3] 239 at hb;have c0:=hb.cell 0 rfl;have c1:=hb.cell 1 rfl;have c2:=hb.cell 2 rfl;have c3:=hb.cell 3 rfl;have r0:=hr.cell 0 rfl;have r1:=hr.cell 1 rfl;have r2:=hr.cell 2 rfl;have r3:=hr.cell 3 rfl;have f0:=hr.free 0;have f1:=hr.free 1;have f2:=hr.free 2;have f3:=hr.free 3;have HM:=qH hm;go_wp2;refine bodyPost_ret (v:=.agg #[.bool x0,.bool x1,.bool x2,.bool x3]) (by simp[results,results115,go_sem,r0,r1,r2,r3]) rfl ⟨by rw[HT.o];rfl,?_⟩;exact(((HM.o.setCell (a:=J w.heap.size 0) (fun h=>absurd h (by simp)) _).setCell (a:=J w.heap.size 1) (fun h=>absurd h (by simp)) _).setCell (a:=J w.heap.size 2) (fun h=>absurd h (by simp)) _).setCell (a:=J w.heap.size 3) (fun h=>absurd h (by simp)) _
theorem Oi(t:List Bool)(h:t.length=4):∃a b c d,t=[a,b,c,d]∧t.map not=[!a,!b,!c,!d]:=by
 obtain⟨a,b,c,d,rfl⟩:=Vj h;exact⟨a,b,c,d,rfl,rfl⟩
theorem Fv(s:ByteArray)(w:World)(hs:s.size<=1048576):J1 162 #[.string s] w fun e w'=>e=.returned (Y4 (dS s.data.toList))∧Mod No w w':=by
 have Oj:Hd (∀o,J1 115 #[.string s] (w.alloc o) fun e w'=>e=.returned (Y4 (aI.allOf s.data.toList aX))∧Mod No (w.alloc o) w'):=fun o=>wZ s _ hs
 obtain⟨x0,x1,x2,x3,ht,hn⟩:=Oi _ (J4 s.data.toList aX);have HE:Hd (dS s.data.toList=[!x0,!x1,!x2,!x3]):=hn;rw[ht]at Oj;rw[HE.o];go_enter func162,ntmps162;go_wp2_with fail;refine(Oj.o _).mono ?_;rintro e w1 ⟨rfl,hm1⟩;unfold Y4;have hr0:=aG.mod (heap_alloc_new w _) hm1 (fun x=>x);have HM:Hd (Mod No w w1):=((Mod.refl _ _).alloc _).no hm1;have hsz:=hm1.size;simp at hsz;have HR:=qH hr0;go_wp2
 go_loopw [7] (fun ii wr=>∃(i:Nat),i<=4∧ii=I i∧aG wr w1.heap.size ([.bool !x0,.bool !x1,.bool !x2,.bool !x3].take i++[.bool x0,.bool x1,.bool x2,.bool x3].drop i) 239∧aG wr w.heap.size [.bool false,.bool false,.bool false,.bool false] 239∧Mod No w wr) (fun ii _=>4-(intOf ii).toNat)
 case atStart=>exact⟨0,by omega,rfl,heap_alloc_new w1 _,HR.o.alloc _,HM.o.alloc _⟩
 case round=>
  obtain⟨i,hi,rfl,hb,hr,hm⟩:=hrel;have HB:=qH hb;have HR:=qH hr;have HM:=qH hm;have hne:w.heap.size≠w1.heap.size:=by omega
  match i,hi with
  | 0,_=>
   have c0:=hb.cell 0 rfl;have f0:=hb.free 0;go_wp2
   go_roundw
   case rel=>exact⟨1,by omega,rfl,HB.o.set 0 _,HR.o.other (a:=J w1.heap.size 0) hne _,HM.o.setCell (a:=J w1.heap.size 0) (fun h=>absurd h (by simp;omega)) _⟩
   case measure=>simp[intOf]
  | 1,_=>
   have c0:=hb.cell 1 rfl;have f0:=hb.free 1;go_wp2
   go_roundw
   case rel=>exact⟨2,by omega,rfl,HB.o.set 1 _,HR.o.other (a:=J w1.heap.size 1) hne _,HM.o.setCell (a:=J w1.heap.size 1) (fun h=>absurd h (by simp;omega)) _⟩
   case measure=>simp[intOf]
  | 2,_=>
   have c0:=hb.cell 2 rfl;have f0:=hb.free 2;go_wp2
   go_roundw
   case rel=>exact⟨3,by omega,rfl,HB.o.set 2 _,HR.o.other (a:=J w1.heap.size 2) hne _,HM.o.setCell (a:=J w1.heap.size 2) (fun h=>absurd h (by simp;omega)) _⟩
   case measure=>simp[intOf]
  | 3,_=>
   have c0:=hb.cell 3 rfl;have f0:=hb.free 3;go_wp2
   go_roundw
   case rel=>exact⟨4,by omega,rfl,HB.o.set 3 _,HR.o.other (a:=J w1.heap.size 3) hne _,HM.o.setCell (a:=J w1.heap.size 3) (fun h=>absurd h (by simp;omega)) _⟩
   case measure=>simp[intOf]
  | 4,_=>
   have c0:=hb.cell 0 rfl;have c1:=hb.cell 1 rfl;have c2:=hb.cell 2 rfl;have c3:=hb.cell 3 rfl;have r0:=hr.cell 0 rfl;have r1:=hr.cell 1 rfl;have r2:=hr.cell 2 rfl;have r3:=hr.cell 3 rfl;have f0:=hr.free 0;have f1:=hr.free 1;have f2:=hr.free 2;have f3:=hr.free 3;go_wp2;refine bodyPost_ret (v:=.agg #[.bool !x0,.bool !x1,.bool !x2,.bool !x3]) (by simp[results,results162,go_sem,r0,r1,r2,r3]) rfl ⟨rfl,?_⟩;exact(((HM.o.setCell (a:=J w.heap.size 0) (fun h=>absurd h (by simp)) _).setCell (a:=J w.heap.size 1) (fun h=>absurd h (by simp)) _).setCell (a:=J w.heap.size 2) (fun h=>absurd h (by simp)) _).setCell (a:=J w.heap.size 3) (fun h=>absurd h (by simp)) _
theorem SK(l:List UInt8)(j:Nat)(h:l.length<=j+1):aI.rising (l.drop j)=true:=by
 have:(l.drop j).length<=1:=by rw[length_drop];omega
 match l.drop j,this with
 | [],_=>rfl
 | [a],_=>rfl
theorem Ol(l:List UInt8)(j:Nat)(a b:UInt8)(ha:l[j]?=some a)(hb:l[j+1]?=some b):aI.rising (l.drop j)=(decide (a.toNat<b.toNat)&&aI.rising (l.drop (j+1))):=by
 obtain⟨h1,rfl⟩:=bU ha;obtain⟨h2,rfl⟩:=bU hb;rw[kJ h1,kJ h2];rfl
theorem LJ(s:ByteArray)(w:World)(hs:s.size<=1048576):J1 164 #[.string s] w fun e w'=>e=.returned (.bool (aI.rising s.data.toList))∧∃n,w'=w.drewN n:=by
 obtain⟨l,hl⟩:=eX s.data.toList;have zf:Hd (s.size=l.length):=qH <| by rw[hl,bK]
 have HG:Hd (∀(i:Nat) (h:i<s.size),l[i]?=some s[i]):=fun i h=>by rw[hl];exact Lib.data_getElem? s i h
 rw[<-hl];clear hl;go_enter func164,ntmps164;go_wp2
 go_loopw [3] (fun ii wr=>∃(j n:Nat),j<=s.size∧ii=I ((j:Int)+1)∧aI.rising (l.drop j)=aI.rising l∧wr=w.drewN n) (fun ii _=>s.size+1-(intOf ii).toNat)
 case atStart=>exact⟨0,0,by omega,rfl,by simp,rfl⟩
 case round=>
  obtain⟨j,n,hj,rfl,hR,rfl⟩:=hrel;by_cases hlt:j+1<s.size
  ·have h1:=HG.o j (by omega);have h2:=HG.o (j+1) hlt;have hst:=Ol l j _ _ h1 h2;have hi1:(j:Int)+1<(s.size:Int):=by omega
   have hi2:(j:Int)<s.size:=by omega
   have hi3:(0:Int)<=(j:Int):=by omega
   have hi4:(0:Int)<=(j:Int)+1:=by omega
   have ht:((j:Int)+1).toNat=j+1:=by omega
   rw[hR]at hst;by_cases hc:(s[j]'(by omega)).toNat<(s[j+1]).toNat
   ·have hci:¬((s[j+1]).toNat:Int)<=((s[j]'(by omega)).toNat:Int):=by omega
    have HR2:Hd (aI.rising (l.drop (j+1))=aI.rising l):=by
     show _=_;rw[hst,decide_eq_true hc,Bool.true_and]
    go_wp2;go_quiet (fail);go_wp2
    go_roundw
    case rel=>exact⟨j+1,_,by omega,by go_num,HR2.o,rfl⟩
    case measure=>simp[intOf];omega
   ·have hci:((s[j+1]).toNat:Int)<=((s[j]'(by omega)).toNat:Int):=by omega
    have HR2:Hd (aI.rising l=false):=by
     show _=_;rw[hst,lT hc,Bool.false_and]
    go_wp2;go_quiet (fail);go_wp2;go_ret;exact⟨by rw[HR2.o];rfl,_,World.drewN_drewN _ _ _⟩
  ·have hi1:¬(j:Int)+1<(s.size:Int):=by omega
   have HR2:Hd (aI.rising l=true):=by
    show _=_;rw[<-hR];exact SK l j (by have:=zf.o;omega)
   go_wp2;go_ret;exact⟨by rw[HR2.o];rfl,_,rfl⟩
theorem SL(b:Nat)(X:List Value)(T:Nat)(s:ByteArray)(p:PS)(w:World)(hs:s.size<=1048576)(hr:Rd w b X T s p.k p.bad):J1 163 #[Jx b 0] w fun e w'=>e=.returned (.string ⟨(dN s.data.toList p).1.toArray⟩)∧Rd w' b X T s (dN s.data.toList p).2.k (dN s.data.toList p).2.bad∧w.grownBy w' (some b):=by
 obtain⟨k,bad,ps⟩:=p;have HIS:=Aw;have HIS:=qH HIS;have c0:=hr.c0;have c1:=hr.c1;have c2:=hr.c2;have f1:=hr.f1;have f2:=hr.f2;have HR:Hd (Rd w b X T s k bad):=hr;by_cases hk:k<s.size
 ·have hg:=Lib.data_getElem? s k hk;have hi:(k:Int)<s.size:=by omega
  have hi0:(0:Int)<=(k:Int):=by omega
  have hd:decide (s.size<=k)=false:=lT (by omega);cases hl:lG s[k]with
  | true=>
   have e:dN s.data.toList ⟨k,bad,ps⟩=([s[k]],⟨k+1,bad,ps⟩):=by
    simp only[dN,hg,hl,if_true]
   rw[e];go_enter func163,ntmps163;go_wp2;go_quiet ((go_at_call 74;exact Calls.quiet_of_same (by have:=HIS.o s[k];rw[hl]at this;exact this _)));have hr2:=(HR.o.drewN nq).set1 (k+1);have HG:Hd (w.grownBy ((w.drewN nq).setCell (J b 1) (I ((k+1:Nat):Int))) (some b)):=aJ (grown_drewN w nq _) (bD _ b 1 _);generalize hw2:(w.drewN nq).setCell (J b 1) (I ((k+1:Nat):Int))=w2 at hr2 HG;have HR2:=qH hr2;have e0:=hr2.c0;have e1:=hr2.c1;have hw3:(w.drewN nq).setCell (J b 1) (I ((k:Int)+1))=w2:=by rw[<-hw2];congr 1
   go_wp2;have hi5:(k:Int)+1<=(s.size:Int):=by omega
   have hi6:(0:Int)<=(k:Int)+1:=by omega
   have hi7:(k:Int)<=k+1:=by omega
   have ht:((k:Int)+1).toNat=k+1:=by omega
   go_quiet (fail);go_wp2;go_ret;refine⟨?_,HR2.o.drewN _,aJ HG.o (grown_drewN _ _ _)⟩;show Ending.returned (.string (s.extract k (k+1)))=_;rw[CZ s k hk]
  | false=>
   have e:dN s.data.toList ⟨k,bad,ps⟩=([],⟨k,true,ps⟩):=by
    simp only[dN,hg,hl,nP];simp
   rw[e];go_enter func163,ntmps163;go_wp2;go_quiet ((go_at_call 74;exact Calls.quiet_of_same (by have:=HIS.o s[k];rw[hl]at this;exact this _)));go_wp2;go_ret;exact⟨rfl,(HR.o.drewN _).set2,aJ (grown_drewN _ _ _) (bD _ _ _ _)⟩
 ·have e:dN s.data.toList ⟨k,bad,ps⟩=([],⟨k,true,ps⟩):=by
   simp only[dN,Dj (show s.size<=k by omega),nP]
  rw[e];have hd:decide (s.size<=k)=true:=decide_eq_true (by omega);have hi:¬(k:Int)<s.size:=by omega
  go_enter func163,ntmps163;go_wp2;go_quiet ((go_at_call 74;exact Calls.quiet_of_same (HIS.o _ _)));go_wp2;go_ret;exact⟨rfl,(HR.o.drewN _).set2,aJ (grown_drewN _ _ _) (bD _ _ _ _)⟩
structure iC(w:World)(b:Nat)(s:ByteArray)(vp:Value)(p:PS):Prop where
 blk:aG w b [.string s,I p.k,.bool p.bad,vp,.bool false,.int .u32 0,.int .u32 0] 185
 row:Row yY w vp p.ps
 ne:vp.ownBlock≠some b
 ok:Ob p.ps
 ks:p.k<=s.size
def wu(w w':World)(b:Nat)(s:ByteArray)(vp:Value)(p':PS):Prop:=∃Dl,iC w' b s Dl p'∧aN w vp Dl∧Mod (Pt b vp) w w'
section
variable {w w1 w2 w':World} {b:Nat} {s:ByteArray} {vp vp1:Value} {p p1 p2:PS}
theorem iC.rd(h:iC w b s vp p):Rd w b [vp,.bool false,.int .u32 0,.int .u32 0] 185 s p.k p.bad:=h.blk
theorem iC.lt(h:iC w b s vp p):b<w.heap.size:=h.blk.lt
theorem iC.own(h:iC w b s vp p)(hg:vp.ownBlock=some g):g<w.heap.size:=h.row.lt hg
theorem iC.drewN(h:iC w b s vp p)(n:Nat):iC (w.drewN n) b s vp p:=⟨h.blk,h.row,h.ne,h.ok,h.ks⟩
theorem iC.drew(h:iC w b s vp p):iC w.drew b s vp p:=⟨h.blk,h.row,h.ne,h.ok,h.ks⟩
theorem iC.alloc(h:iC w b s vp p)(o:Obj):iC (w.alloc o) b s vp p:=⟨h.blk.alloc o,h.row.alloc o,h.ne,h.ok,h.ks⟩
theorem iC.no(h:iC w b s vp p)(hm:Mod No w w'):iC w' b s vp p:=⟨h.blk.mod hm (fun x=>x),h.row.no hm,h.ne,h.ok,h.ks⟩
theorem iC.other(h:iC w b s vp p){a:Addr}(h1:b≠a.block)(h2:vp.ownBlock≠some a.block)(v:Value):iC (w.setCell a v) b s vp p:=⟨h.blk.other h1 v,h.row.other h2 v,h.ne,h.ok,h.ks⟩
theorem aN.refl(w:World)(v:Value):aN w v v:=fun _ h=>Or.inl h
theorem aN.trans{v1 v2:Value}(h1:aN w v v1)(h2:aN w1 v1 v2)(hs:w.heap.size<=w1.heap.size):aN w v v2:=fun g hg=>by
 rcases h2 g hg with h | h
 ·exact h1 g h
 ·exact Or.inr (by omega)
theorem aN.old{v':Value}(h:aN w v v')(h1:v.ownBlock≠some g)(h2:g<w.heap.size):v'.ownBlock≠some g:=fun e=>by
 rcases h g e with h3 | h3
 ·exact h1 h3
 ·omega
theorem Pt.fresh(hf:aN w vp vp1):∀k,k<w.heap.size->Pt b vp1 k->Pt b vp k:=fun k hk h=>by
 rcases h with h | h
 ·exact Or.inl h
 ·rcases hf k h with h2 | h2
  ·exact Or.inr h2
  ·omega
theorem iC.step(h:iC w b s vp p){k:Nat}{bad:Bool}(hr:Rd w' b [vp,.bool false,.int .u32 0,.int .u32 0] 185 s k bad)(hg:w.grownBy w' (some b))(hk:k<=s.size):iC w' b s vp ⟨k,bad,p.ps⟩:=⟨hr,h.row.grown hg (Or.inr (fun e=>h.ne e)),h.ne,h.ok,hk⟩
theorem Mod.step(hg:w.grownBy w' (some b)):Mod (Pt b vp) w w':=Mod.rH hg fun g e=>by cases e;exact Or.inl rfl
theorem iC.led(h:iC w b s vp p)(hm:Mod (Pt b vp) w1 w):wu w1 w b s vp p:=⟨vp,h,aN.refl _ _,hm⟩
theorem wu.next(hf:aN w vp vp1)(hm:Mod (Pt b vp) w w1)(h:wu w1 w2 b s vp1 p2):wu w w2 b s vp p2:=by
 obtain⟨SS,h2,f2,m2⟩:=h;exact⟨SS,h2,hf.trans f2 hm.size,hm.trans' m2 (Pt.fresh hf)⟩
theorem gG{w0:World}{L:Nat}(h0:aG w0 L cs T)(hb:L≠b)(hv:vp.ownBlock≠some L)(hm:Mod (Pt b vp) w0 w1):aG w1 L cs T:=h0.mod hm fun h=>by
  rcases h with h | h
  ·exact hb h
  ·exact hv h
theorem Vk(h:iC w b s vp p)(c:UInt8)(hs:s.size<=1048576):J1 113 #[Jx b 0,.int .u8 c.toNat] w fun e w'=>e=.returned (.bool (aI.sees s.data.toList c p))∧∃n,w'=w.drewN n:=rJ b _ _ s p.k p.bad c w hs h.rd
theorem Zp{c:UInt8}(h:aI.sees s.data.toList c p=true):p.k+1<=s.size:=by
 have:=qK (s:=s) (c:=c) (k:=p.k) (bad:=p.bad) h;omega
theorem Om(h:iC w b s vp p)(c:UInt8)(hs:s.size<=1048576):J1 81 #[Jx b 0,.int .u8 c.toNat] w fun e w'=>e=.returned (.bool (aI.sees s.data.toList c p))∧iC w' b s vp (iW s.data.toList c p)∧Mod (Pt b vp) w w':=by
 refine(Fe b _ _ s p.k p.bad c w hs h.rd).mono ?_;rintro e w' ⟨rfl,h1,h2⟩;refine⟨rfl,?_,Mod.step h2⟩
 cases hc:aI.sees s.data.toList c p with
 | true=>
  have e:dB s c p.k p.bad=true:=hc;rw[aP e]at h1;unfold iW;rw[aP hc];exact h.step h1 h2 (Zp hc)
 | false=>
  have e:¬dB s c p.k p.bad=true:=by rw[show dB s c p.k p.bad=false from hc];simp
  rw[aU e]at h1;unfold iW;rw[hc,aU (by simp)];exact h.step h1 h2 h.ks
theorem Oo(h:iC w b s vp p)(c:UInt8)(hs:s.size<=1048576):J1 79 #[Jx b 0,.int .u8 c.toNat] w fun e w'=>e=.returned (.tuple #[])∧iC w' b s vp (eY s.data.toList c p)∧Mod (Pt b vp) w w':=by
 refine(vT b _ _ s p.k p.bad c w hs h.rd).mono ?_;rintro e w' ⟨rfl,h1,h2⟩;refine⟨rfl,?_,Mod.step h2⟩;unfold dL at h1
 cases hc:aI.sees s.data.toList c p with
 | true=>
  have e:dB s c p.k p.bad=true:=hc;rw[aP e]at h1;unfold eY;rw[aP hc];exact h.step h1 h2 (Zp hc)
 | false=>
  have e:¬dB s c p.k p.bad=true:=by rw[show dB s c p.k p.bad=false from hc];simp
  rw[aU e]at h1;unfold eY;rw[hc,aU (by simp)];exact h.step h1 h2 h.ks
theorem Vl(h:iC w b s vp p):J1 116 #[Jx b 0] w fun e w'=>e=.returned (.tuple #[])∧iC w' b s vp (nP p)∧Mod (Pt b vp) w w':=by
 refine(vU b _ _ s p.k p.bad w h.rd).mono ?_;rintro e w' ⟨rfl,h1,h2⟩;exact⟨rfl,h.step h1 h2 h.ks,Mod.step h2⟩
theorem Zq(h:iC w b s vp p):J1 70 #[Jx b 0] w fun e w'=>e=.returned (.bool p.bad)∧w'=w:=BA b _ _ s p.k p.bad w h.rd
theorem Vm(h:iC w b s vp p)(hs:s.size<=1048576):J1 68 #[Jx b 0] w fun e w'=>e=.returned (I ((s.size:Int)-(p.k:Int)))∧∃n,w'=w.drewN n:=Ff b _ _ s p.k p.bad w hs h.ks h.rd
theorem aE0(h:iC w b s vp p)(hs:s.size<=1048576):J1 78 #[Jx b 0,I 0] w fun e w'=>e=.returned (.string ⟨(ku lG s.data.toList p).1.toArray⟩)∧iC w' b s vp (ku lG s.data.toList p).2∧Mod (Pt b vp) w w':=by
 refine(aBZ b _ _ s p.k p.bad w hs h.ks h.rd).mono ?_;rintro e w' ⟨rfl,h1,h2⟩;refine⟨rfl,h.step h1 h2 ?_,Mod.step h2⟩;have:=tY lG s.data.toList p.k (by rw[bK];exact h.ks)
 rwa [bK]at this
theorem aE1(h:iC w b s vp p)(hs:s.size<=1048576):J1 78 #[Jx b 0,I 1] w fun e w'=>e=.returned (.string ⟨(ku aI.isS s.data.toList p).1.toArray⟩)∧iC w' b s vp (ku aI.isS s.data.toList p).2∧Mod (Pt b vp) w w':=by
 refine(Fg b _ _ s p.k p.bad w hs h.ks h.rd).mono ?_;rintro e w' ⟨rfl,h1,h2⟩;refine⟨rfl,h.step h1 h2 ?_,Mod.step h2⟩;have:=tY aI.isS s.data.toList p.k (by rw[bK];exact h.ks)
 rwa [bK]at this
theorem aB2(h:iC w b s vp p)(hs:s.size<=1048576):J1 163 #[Jx b 0] w fun e w'=>e=.returned (.string ⟨(dN s.data.toList p).1.toArray⟩)∧iC w' b s vp (dN s.data.toList p).2∧Mod (Pt b vp) w w':=by
 refine(SL b _ _ s p w hs h.rd).mono ?_;rintro e w' ⟨rfl,h1,h2⟩;refine⟨rfl,?_,Mod.step h2⟩;have hps:(dN s.data.toList p).2.ps=p.ps∧(dN s.data.toList p).2.k<=s.size:=by
  unfold dN;split
  ·exact⟨rfl,h.ks⟩
  ·rename_i c hc;split
   ·refine⟨rfl,?_⟩;have:=(bU hc).1;rw[bK]at this;exact this
   ·exact⟨rfl,h.ks⟩
 have:=h.step h1 h2 hps.2;rw[<-hps.1]at this;exact this
theorem aDE(h:n<32):xg ⟨false,aI.bit n,aI.bit n⟩:=⟨Kw h,Kw h⟩
theorem Fz(h:iC w b s vp p)(t:List Bool)(ha:iZ p.ps t=some (x,ps)):J1 114 #[Jx b 3,Y4 t] w fun e w'=>e=.returned (gZ x)∧xg x∧wu w w' b s vp { p with ps:=ps }:=by
 unfold iZ at ha;split at ha
 ·rename_i hlt;cases ha;refine(add_any b 3 _ _ vp p.ps t w h.blk rfl h.row h.ne hlt).mono ?_;rintro e w' ⟨rfl,Dl,h1,h2,h3,h4,h5⟩;refine⟨rfl,aDE hlt,Dl,⟨h2,h1,h3,⟨by simp;omega,fun q hq=>?_⟩,h.ks⟩,h4,h5⟩;rcases mem_append.1 hq with h6 | h6
  ·exact h.ok.2 q h6
  ·rw[mem_singleton.1 h6];show 0<I5;decide
 ·cases ha
theorem LK(hx:xg x)(hy:xg y):xg (bC ps x y).1:=by
 refine⟨?_,?_⟩
 ·show (if x.e=true then x.f ||| y.f else x.f)<I5;split
  ·exact wY hx.1 hy.1
  ·exact hx.1
 ·show (if y.e=true then y.l ||| x.l else y.l)<I5;split
  ·exact wY hy.2 hx.2
  ·exact hy.2
theorem Zr(h:iC w b s vp p)(hx:xg x)(hy:xg y):J1 83 #[Jx b 3,gZ x,gZ y] w fun e w'=>e=.returned (gZ (bC p.ps x y).1)∧iC w' b s vp { p with ps:=(bC p.ps x y).2 }∧Mod (Pt b vp) w w':=by
 refine(Zm b 3 _ _ vp p.ps x y w h.blk rfl h.row h.ne h.ok hx hy).mono ?_;rintro e w' ⟨rfl,h1,h2⟩;exact⟨rfl,⟨h.blk.mod h2 h.ne,h1,h.ne,yu h.ok hy.1,h.ks⟩,h2.more fun k _ e=>Or.inr e⟩
theorem aGb(h:iC w b s vp p)(hx:xg x):J1 156 #[Jx b 3,gZ x] w fun e w'=>e=.returned (gZ (sJ p.ps x).1)∧iC w' b s vp { p with ps:=(sJ p.ps x).2 }∧Mod (Pt b vp) w w':=by
 refine(Rz b 3 _ _ vp p.ps x w h.blk rfl h.row h.ne h.ok hx).mono ?_;rintro e w' ⟨rfl,h1,h2⟩;exact⟨rfl,⟨h.blk.mod h2 h.ne,h1,h.ne,yu h.ok hx.1,h.ks⟩,h2.more fun k _ e=>Or.inr e⟩
end
theorem step_cons{l st last:Nat}{nx:Nat}{q:aI.Place}(hq:ps[i]?=some q):iR l st last (ps.drop i) i nx=(if !aI.has st i||!(q.t.getD l false) then iR l st last (ps.drop (i+1)) (i+1) nx else if aI.has last i then none else iR l st last (ps.drop (i+1)) (i+1) (nx ||| q.n)):=by
 obtain⟨h1,rfl⟩:=bU hq;rw[kJ h1,iR]
theorem Oq(w:World)(vp:Value)(ps:List aI.Place)(x:aI.Piece)(st l:Nat)(hrow:Row yY w vp ps)(Zt:ps.length<=18)(hps:Ob ps)(hx:xg x)(hst:st<I5)(hl:l<4):J1 122 #[yL vp x,I st,I l] w fun e w'=>e=.returned (I (oL ps x st l:Int))∧Mod No w w':=by
 have HIS:=qH fun wx (hm:Mod No w wx)=>J3 _ vp ps x st (hrow.no hm) Zt
 have XE:=qH fun wx (hm:Mod No w wx)=>aIX _ vp ps x (hrow.no hm) Zt
 have hh:=Fq Zt;have yZ:(l:Int)<4:=by omega
 have aB3:(0:Int)<=(l:Int):=by omega
 have hd1:decide ((l:Int)<0)=false:=lT (by omega);have hd2:decide ((4:Int)<=(l:Int))=false:=lT (by omega);obtain⟨a,cap,hvp,ha,hcap,-⟩:=hrow.any;unfold oL;generalize fD ps=H at HIS XE hh ⊢;obtain⟨n,hn⟩:=eX ps.length;rw[<-hn]at hvp hcap Zt;have HN:=qH hn;have HPS:=qH hps;have Oc:=qH hrow;clear hn hps hrow;subst hvp;obtain⟨xe,xf,xl⟩:=x;have hxl:xl<I5:=hx.2;clear hx;unfold yL at *
 dsimp only at *
 by_cases hS:st=H
 ·rw[aP hS];have HIS:=HIS.o _ ((Mod.refl _ _).alloc (.cells #[.slice a n cap,.bool xe,.int .u32 xf,.int .u32 xl] 132));rw[decide_eq_true hS]at HIS;clear XE hS;go_enter func122,ntmps122;go_wp2_with fail;refine HIS.mono ?_;rintro e w1 ⟨rfl,m1⟩;clear HIS;go_wp2;go_ret;exact⟨rfl,((Mod.refl _ _).alloc _).no m1⟩
 ·rw[aU hS];have HIS:=HIS.o _ ((Mod.refl _ _).alloc (.cells #[.slice a n cap,.bool xe,.int .u32 xf,.int .u32 xl] 132));rw[lT hS]at HIS;clear hS;generalize hR:BZ H (iR l st xl ps 0 0)=R;have HR:=qH hR;clear hR;go_enter func122,ntmps122;go_wp2_with fail;refine HIS.mono ?_;rintro e w1 ⟨rfl,m1⟩;clear HIS;have hb1:aG w1 w.heap.size [.slice a n cap,.bool xe,.int .u32 xf,.int .u32 xl] 132:=aG.mod (heap_alloc_new w _) m1 (fun x=>x);have DN:Hd (Mod No w w1):=((Mod.refl _ _).alloc _).no m1;have HB1:=qH hb1;have k0:=hb1.cell 0 rfl;have hs1:=hb1.lt;clear hb1 m1;go_wp2_with fail;go_loopg [7,25] n (fun g v7 v25 wr=>∃(i nx:Nat),i<=n∧g=n-i∧v25=I i∧v7=.int .u32 nx∧nx<I5∧iR l st xl (ps.drop i) i nx=iR l st xl ps 0 0∧Mod No w1 wr)
  case atStart=>exact⟨0,0,by omega,by omega,rfl,rfl,by decide,rfl,Mod.refl _ _⟩
  case round=>
   obtain⟨i,nx,hi,hg,rfl,rfl,hnx,hst2,hm⟩:=hrel;have Ot:=qH (DN.o.no hm);have hbk:=HB1.o.mod hm (fun x=>x);have SV:=qH hbk;have HM:=qH hm;have hsr:=hbk.lt;by_cases hlt:i<n
   ·obtain⟨q,hq⟩:∃q,ps[i]?=some q:=⟨ps[i]'(by have:=HN.o;omega),bG _⟩;have hrow:=Oc.o.no Ot.o;obtain⟨g,rfl⟩:∃g,a=some (J g 0):=by
     rcases ha with rfl | ⟨g,rfl,_⟩
     ·rcases hrow.2 with ⟨h,h2⟩ | ⟨g,cap',cur,h,_⟩
      ·exfalso;have:=HN.o;omega
      ·cases h
     ·exact⟨g,rfl⟩
    have q0:wr.cell? (J g (i*5))=_:=hrow.cell i 0 hq rfl;have q1:wr.cell? (J g (i*5+1))=_:=hrow.cell i 1 hq rfl;have q2:wr.cell? (J g (i*5+2))=_:=hrow.cell i 2 hq rfl;have q3:wr.cell? (J g (i*5+3))=_:=hrow.cell i 3 hq rfl;have q4:wr.cell? (J g (i*5+4))=some (.int .u32 q.n):=hrow.cell i 4 hq rfl;have hqn:=HPS.o.2 q (iI hq);have hcons:=step_cons (l:=l) (st:=st) (last:=xl) (nx:=nx) hq;rw[hst2]at hcons;have qi:=qH fun wx=>Au st i hst (by omega) wx
    have vW:=qH fun wx=>Au xl i hxl (by omega) wx
    have hor:=u32_or_nat nx q.n hnx hqn;have hor2:=wY hnx hqn;have hilt:(i:Int)<n:=by omega
    generalize hx1:nx ||| q.n=XF at hor hor2 hcons;have hne:¬w.heap.size=wr.heap.size:=by omega
    have Y0:=hbk.aS 0 rfl;have Y1:=hbk.aS 1 rfl;have Y2:=hbk.aS 2 rfl;have Y3:=hbk.aS 3 rfl;have aHt:st<4294967296:=hst;have hl4:l=0∨l=1∨l=2∨l=3:=by omega
    clear hd1 hd2 yZ aB3 hl;generalize htb:q.t.getD l false=tb at hcons;rcases hl4 with rfl | rfl | rfl | rfl;all_goals
     first | rw[htb]at q0 | rw[htb]at q1 | rw[htb]at q2 | rw[htb]at q3
     cases c1:aI.has st i with
     | false=>
      rw[c1]at qi;rw[c1,show (!false||!tb)=true from rfl,aP rfl]at hcons;have HC:=qH hcons.symm;clear hcons c1 htb hst2 hq hrow vW hor hor2 hx1 hbk hm;go_wp2_with fail;refine(qi.o _).mono ?_;rintro e w2 ⟨rfl,rfl⟩;clear qi;go_wp2;go_roundg (n-(i+1))
      case measure=>omega
      case rel=>exact⟨i+1,nx,by omega,rfl,by go_num,rfl,hnx,HC.o,HM.o.alloc _⟩
     | true=>
      rw[c1]at qi
      cases tb with
      | false=>
       rw[c1,show (!true||!false)=true from rfl,aP rfl]at hcons;have HC:=qH hcons.symm;clear hcons c1 htb hst2 hq hrow vW hor hor2 hx1 hbk hm;go_wp2_with fail;refine(qi.o _).mono ?_;rintro e w2 ⟨rfl,rfl⟩;clear qi;go_wp2;go_roundg (n-(i+1))
       case measure=>omega
       case rel=>exact⟨i+1,nx,by omega,rfl,by go_num,rfl,hnx,HC.o,HM.o.alloc _⟩
      | true=>
       rw[c1,show (!true||!true)=false from rfl,aU (by simp)]at hcons
       cases c3:aI.has xl i with
       | true=>
        rw[c3,aP rfl]at hcons;rw[c3]at vW;have HRH:Hd (H=R):=qH <| by
         have h:=HR.o;rw[hcons]at h;exact h
        have pJ:=XE.o _ (Ot.o.alloc (.cells #[.bool (q.t.getD 0 false),.bool (q.t.getD 1 false),.bool (q.t.getD 2 false),.bool (q.t.getD 3 false),.int .u32 q.n] 269));rw[htb]at pJ;have HHN:=qH hh;clear hcons c1 c3 htb hst2 hq hrow hor hor2 hx1 hbk hm;go_wp2_with fail;refine(qi.o _).mono ?_;rintro e w2 ⟨rfl,rfl⟩;clear qi;go_wp2_with fail;refine(vW.o _).mono ?_;rintro e w2 ⟨rfl,rfl⟩;clear vW;go_wp2_with fail;refine pJ.mono ?_;rintro e w3 ⟨rfl,m3⟩;clear pJ;go_wp2;go_ret;exact⟨bQ (by rw[<-HRH.o]),(Ot.o.alloc _).no m3⟩
       | false=>
        rw[c3,aU (by simp)]at hcons;rw[c3]at vW;have HC:=qH hcons.symm;have I7:=qH hor2;clear hcons c1 c3 htb hst2 hq hrow hor2 hx1 hbk hm;go_wp2_with fail;refine(qi.o _).mono ?_;rintro e w2 ⟨rfl,rfl⟩;clear qi;go_wp2_with fail;refine(vW.o _).mono ?_;rintro e w2 ⟨rfl,rfl⟩;clear vW;go_wp2;go_roundg (n-(i+1))
        case measure=>omega
        case rel=>exact⟨i+1,XF,by omega,rfl,by go_num,by rw[<-hor],I7.o,HC.o,HM.o.alloc _⟩
   ·obtain rfl:i=n:=by omega
    have HR2:Hd (nx=R):=qH <| by
     have h:=HR.o;rw[<-hst2,drop_of_length_le (by have:=HN.o;omega),iR]at h;exact h
    have aHu:nx<4294967296:=hnx;clear hst2 hm hbk hg hi hlt hcap ha hh hnx hd1 hd2 yZ aB3 hst hxl hl Zt hs1 hsr k0;go_wp2;go_ret;exact⟨bQ (by rw[<-HR2.o]),Ot.o⟩
def dh:Enc Nat:=⟨3,1,fun x=>[I x],fun _=>rfl⟩
theorem aID:(prog.info? 3).map (fun i=>(i.zero,i.size,i.bytes))=some (some (I 0),1,8):=by kernel_rfl
theorem dh.cell{xs:List Nat}(h:Row dh w (Jn g n cap) xs){x:Nat}(hx:xs[i]?=some x):w.cell? (J g i)=some (I x):=by
 have:=h.cell i 0 hx (u:=I x) rfl;have e:i*dh.c+0=i:=by show i*1+0=i;omega
 rwa [e]at this
theorem dh.put{xs:List Nat}(h:Row dh w (Jn g n cap) xs){x:Nat}(y:Nat)(hx:xs[i]?=some x):Row dh (w.setCell (J g i) (I y)) (Jn g n cap) (xs.set i y):=by
 have:=h.put i 0 hx (x':=y) (u:=I y) (by decide) rfl;have e:i*dh.c+0=i:=by show i*1+0=i;omega
 rwa [e]at this
structure zi(w:World)(b:Nat)(vm vn:Value)(m:M2.Meet):Prop where
 blk:aG w b [vm,vn] 245
 met:Row dh w vm m.met
 num:Row dh w vn m.nums
 nmb:vm.ownBlock≠some b
 nnb:vn.ownBlock≠some b
 nmn:∀g,vm.ownBlock=some g->vn.ownBlock≠some g
def Mt(b:Nat)(vm vn:Value):Nat->Prop:=fun k=>k=b∨vm.ownBlock=some k∨vn.ownBlock=some k
theorem C9(w:World)(b:Nat)(vm vn:Value)(m m':M2.Meet)(x k:Nat)(h:zi w b vm vn m)(hM:dZ m x=some (k,m'))(hml:m.met.length<=2000000)(hnl:m.nums.length<=300000)(hv:∀u∈m.nums,u<=2000000):J1 120 #[Jx b 0,I x] w fun e w'=>e=.returned (I k)∧∃LM,zi w' b LM vn m'∧aN w vm LM∧Mod (Mt b vm vn) w w':=by
 obtain⟨i0,af,hz0,hz1,hz2⟩:=info_parts aID;unfold dZ at hM
 cases hu:m.nums[x]? with
 | none=>rw[hu]at hM;cases hM
 | some u=>
  rw[hu]at hM;have hxl:=(bU hu).1;have hub:=hv u (iI hu);obtain⟨gn,LP,hvn,hgn,hncap⟩:=h.num.form (by omega);obtain⟨n,hn⟩:=eX m.nums.length;rw[<-hn]at hvn hncap hxl hnl;subst hvn;have c1:=h.blk.cell 1 rfl;have f0:=h.blk.free 0;have hc:=dh.cell h.num hu;have fx:=h.num.free x;have hxi:(x:Int)<n:=by omega
  have aHv:(0:Int)<=(x:Int):=by omega
  have hd1:decide ((x:Int)<0)=false:=lT (by omega);have HI:=qH h;have aE2:gn≠b:=fun e=>h.nnb (by rw[e];rfl)
  match u,hM with
  | 0,hM=>
   simp only[Option.some.injEq,Prod.mk.injEq]at hM;obtain⟨rfl,rfl⟩:=hM;obtain⟨ma,Ou,hvm,-,-,-⟩:=h.met.any;generalize hmn:m.met.length=mn at hvm hml ⊢;have HMN:=qH hmn;subst hvm;have c0:=h.blk.cell 0 rfl;have hown:w.ownsRow 0 3 1 (.slice ma mn Ou) mn (m.met.flatMap dh.f):=by have:=h.met;unfold Row at this;rw[hmn]at this;exact this
   have hlt:=h.blk.lt;have hbne:some b≠(Value.slice ma mn Ou).ownBlock:=fun e=>h.nmb e.symm
   have aDF:some gn≠(Value.slice ma mn Ou).ownBlock:=fun e=>h.nmn gn e.symm rfl
   have HNU:=qH hu;clear hmn hu h hv hub;go_enter func120,ntmps120;go_wp2_with (at_builtin;refine wpList_append_lies _ rfl _ _ 95 rfl 0 3 i0 _ 1 8 underlying95 af hz0 hz1 hz2 rfl (by omega) (.slice ma mn Ou) mn (m.met.flatMap dh.f) rfl (hown.alloc _) (J w.heap.size 0) 1 1 [I x] rfl rfl ?c1 ?c2 (by omega) (by unfold maxLen;omega) (by omega) (by simp) (w.heap.size+1) (by simp) ?_)
   case c1=>exact World.news_of_block (cs:=#[I x]) (t:=3) (fr:=(0,0)) (heap_alloc_new w _)
   case c2=>intro u hu;simp at hu;rw[hu];rfl
   intro gg cap2 w1 hown1 hgrow hat fJ;have HR:Hd (Row dh w1 (Jn gg (mn+1) cap2) (m.met++[x])):=by
    refine Row.snoc ?_;rw[HMN.o];exact hown1
   have hB1:=(HI.o.blk.alloc _).grown hgrow hbne;have hN1:=(HI.o.num.alloc _).grown hgrow (Or.inr aDF);have DN:Hd (Mod (Mt b (.slice ma mn Ou) (Jn gn n LP)) w w1):=((Mod.refl _ _).alloc _).grown hgrow (fun g hg _=>Or.inr (Or.inl hg));have hgb:gg≠b:=by
    rcases hat with h | h
    ·exact fun e=>hbne (by rw[h,e])
    ·omega
   have aE3:gg≠gn:=by
    rcases hat with h | h
    ·exact fun e=>aDF (by rw[h,e])
    ·omega
   have Qq:Hd (aN w (.slice ma mn Ou) (Jn gg (mn+1) cap2)):=by
    intro g hg;cases hg;rcases hat with h | h
    ·exact Or.inl h
    ·exact Or.inr (by show w.heap.size<=gg;omega)
   have e0:=hB1.cell 0 rfl;have e1:=hB1.free 0;obtain⟨v2,hv2⟩:=eX (Jn gg (mn+1) cap2);rw[<-hv2]at HR Qq;have HVV:=qH hv2;have HV2:Hd (v2.ownBlock=some gg):=qH <| by rw[hv2];rfl
   have HB2:Hd (aG (w1.setCell (J b 0) v2) b [v2,Jn gn n LP] 245):=hB1.set 0 v2;have Zu:=qH (hN1.other (a:=J b 0) (fun e=>aE2 (dY e)) v2);have HR2:=qH (HR.o.other (a:=J b 0) (by rw[HV2.o];intro e;exact hgb (dY e)) v2);have lF:=qH (DN.o.setCell (a:=J b 0) (fun _=>Or.inl rfl) v2);generalize hw2:w1.setCell (J b 0) v2=w2 at HB2 Zu HR2 lF;clear hown1 hgrow hat fJ hown c0 c1 f0 hc fx hB1 hN1 af hz0 hz1 hz2;rw[hv2]at hw2;clear hv2;go_wp2;rw[HVV.o]at HB2;have d0:=HB2.o.cell 0 rfl;have d1:=HB2.o.cell 1 rfl;have dx:=dh.cell Zu.o HNU.o;have fdx:=Zu.o.free x;clear hw2 e0 e1;have aGc:¬b=gn:=fun e=>aE2 e.symm
   go_region
   all_goals
    go_wp2;go_ret;refine⟨bQ (by omega),v2,⟨?_,?_,?_,?_,HI.o.nnb,?_⟩,Qq.o,?_⟩
    ·rw[HVV.o];exact(HB2.o.other (a:=J gn x) (fun e=>aGc e) _).drew
    ·exact(HR2.o.other (a:=J gn x) (by rw[HV2.o];intro e;exact aE3 (dY e)) _).drew
    ·have:=dh.put Zu.o (mn+1) HNU.o;exact this.drew
    ·rw[HV2.o];intro e;exact hgb (dY e)
    ·intro g hg hg2;rw[HV2.o]at hg;cases hg;exact aE3 (dY hg2).symm
    ·exact(lF.o.setCell (a:=J gn x) (fun _=>Or.inr (Or.inr rfl)) _).drew
  | u+1,hM=>
   simp only[Option.some.injEq,Prod.mk.injEq]at hM;obtain⟨rfl,rfl⟩:=hM;have hne:(((u:Int)+1)==0)=false:=by rw[beq_eq_false_iff_ne];omega
   obtain⟨ma,Ou,hvm,-,-,-⟩:=h.met.any;clear hu h hv hvm;go_enter func120,ntmps120;go_wp2;go_ret;exact⟨bQ (by omega),vm,HI.o,aN.refl _ _,Mod.refl _ _⟩
def nC:Enc aI.R4:=⟨102,4,fun r=>[I r.a,I r.b,I r.c,I r.d],fun _=>rfl⟩
def lD:Enc Bool:=⟨4,1,fun x=>[.bool x],fun _=>rfl⟩
theorem aIC:(prog.info? 102).map (fun i=>(i.zero,i.size,i.bytes))=some (some (.agg #[I 0,I 0,I 0,I 0]),4,32):=by kernel_rfl
theorem aIY:(prog.info? 4).map (fun i=>(i.zero,i.size,i.bytes))=some (some (.bool false),1,1):=by kernel_rfl
theorem aG.apart{α:Type}{E:Enc α}{xs:List α}(hb:aG w b cs T)(h:Row E w v xs)(ht:T≠E.T):v.ownBlock≠some b:=by
 intro hg;have hb':w.heap[b]?=some (.cells cs.toArray T (0,0)):=hb;rcases h.2 with ⟨rfl,_⟩ | ⟨g1,cap,cur,rfl,_,hh,_⟩
 ·cases hg
 ·have e:g1=b:=dY hg;rw[e,hb']at hh;injection hh with e;injection e with _ e2;exact ht e2
theorem aG.diff{b':Nat}{cs':List Value}{T':Nat}(h:aG w b cs T)(h':aG w b' cs' T')(ht:T≠T'):b≠b':=by
 rintro rfl;have h1:w.heap[b]?=some (.cells cs.toArray T (0,0)):=h;have h2:w.heap[b]?=some (.cells cs'.toArray T' (0,0)):=h';rw[h1]at h2;injection h2 with e;injection e with _ e2;exact ht e2
theorem Mod.own{S:Nat->Prop}{w1 w2:World}(h:Mod No w w1)(h2:Mod S w1 w2)(hs:∀k,S k->w.heap.size<=k):Mod No w w2:=h.trans' h2 fun k hk hS=>by have:=hs k hS;omega
theorem jL(n:Nat):(replicate n (0:Nat)).flatMap dh.f=replicate n (I 0):=by
 induction n with
 | zero=>rfl
 | succ n ih=>rw[replicate_succ,flatMap_cons,ih,replicate_succ];rfl
theorem iO(n:Nat)(hn:n<=1000000)(w:World):(Instr.makeSlice 95 (I n) (I n)).run prog w=.ok (Jn w.heap.size n n) (w.alloc (.cells (replicate n (I 0)).toArray 3)):=by
 have e:madeCells #[I 0] n=(replicate n (I 0)).toArray:=by
  apply Array.ext';simp[madeCells,Nat.mod_one];exact eq_replicate_iff.2 ⟨by simp,fun b hb=>by obtain⟨_,_,rfl⟩:=mem_map.1 hb;rfl⟩
 rw[<-e];exact run_make_row' 95 3 (I 0) 8 underlying95 aID rfl .i64 .i64 n (by omega) (by omega) w
theorem aKl:(prog.info? 4).map (fun i=>(i.zero,i.size,i.bytes))=some (some (.bool false),1,1):=by kernel_rfl
theorem S9(n:Nat)(hn:n<=2000000)(w:World):(Instr.makeSlice 118 (I n) (I n)).run prog w=.ok (Jn w.heap.size n n) (w.alloc (.cells (replicate n (.bool false)).toArray 4)):=by
 have e:madeCells #[.bool false] n=(replicate n (.bool false)).toArray:=by
  apply Array.ext';simp[madeCells,Nat.mod_one];exact eq_replicate_iff.2 ⟨by simp,fun b hb=>by obtain⟨_,_,rfl⟩:=mem_map.1 hb;rfl⟩
 rw[<-e];exact run_make_row' 118 4 (.bool false) 1 underlying118 aKl rfl .i64 .i64 n (by omega) (by omega) w
theorem GH(h:Row lD w (Jn g n cap) xs){x:Bool}(hx:xs[i]?=some x):w.cell? (J g i)=some (.bool x):=by
 have:=Row.cell h i 0 hx (u:=.bool x) rfl;have e:i*lD.c+0=i:=by show i*1+0=i;omega
 rwa [e]at this
theorem aB4(h:Row lD w (Jn g n cap) xs){x:Bool}(hx:xs[i]?=some x)(y:Bool):Row lD (w.setCell (J g i) (.bool y)) (Jn g n cap) (xs.set i y):=by
 have:=Row.put h i 0 hx (x':=y) (u:=.bool y) (by decide) rfl;have e:i*lD.c+0=i:=by show i*1+0=i;omega
 rwa [e]at this
def pK(C:Th.C)(z:List UInt8):List Bool:=(range (z.length+1)).map fun i=>pI C z i
def nU(C:Th.C)(z:List UInt8)(i:Nat):List Bool:=replicate i false++(pK C z).drop i
theorem yM(C:Th.C)(z:List UInt8):(pK C z).length=z.length+1:=by simp[pK]
theorem yN(C:Th.C)(z:List UInt8)(hi:i<=z.length):(pK C z)[i]?=some (pI C z i):=by
 unfold pK;rw[getElem?_map,getElem?_range (by omega)];rfl
theorem J5(C:Th.C)(z:List UInt8)(hi:i<=z.length+1):(nU C z i).length=z.length+1:=by
 unfold nU;rw[length_append,length_replicate,length_drop,yM];omega
theorem Ov(C:Th.C)(z:List UInt8)(_:i<=z.length):(nU C z (i+1))[i]?=some false:=by
 unfold nU;rw[jG (by simp),getElem?_replicate,aP (by omega)]
theorem Si(C:Th.C)(z:List UInt8)(hi:i<z.length):(nU C z (i+1))[i+1]?=some (pI C z (i+1)):=by
 unfold nU;rw[mW (by simp),length_replicate,Nat.sub_self,getElem?_drop,Nat.add_zero];exact yN C z (by omega)
theorem XG(C:Th.C)(z:List UInt8)(hi:i<=z.length):(nU C z (i+1)).set i (pI C z i)=nU C z i:=by
 unfold nU;have hl:i<(pK C z).length:=by rw[yM];omega
 have hg:=yN C z hi;rw[bG hl]at hg;rw[kJ hl,dY hg,replicate_succ',append_assoc,set_append_right _ _ (by simp)];simp
theorem XH{C:Th.C}(h:fK C=true)(z:List UInt8)(hi:i<z.length):pI C z i=((z[i]==C.qJ)||(z[i]==C.loopA&&pI C z (i+1))):=by
 unfold pI;rw[aP h,aP h,kJ hi,JV]
theorem Zv{C:Th.C}(h:fK C=true)(z:List UInt8):pI C z z.length=false:=by
 unfold pI;rw[aP h,drop_length];rfl
theorem Sj{C:Th.C}(h:fK C=false)(z:List UInt8)(i:Nat):pI C z i=xI C.words z i:=by
 unfold pI;rw[h];rfl
structure Zw(w:World)(B o:Nat)(C:Th.C)(vw:Value):Prop where
 c0:w.cell? (J B o)=some vw
 c1:w.cell? (J B (o+1))=some (.bool (fK C))
 c2:w.cell? (J B (o+2))=some (.int .u8 C.loopA.toNat)
 c3:w.cell? (J B (o+3))=some (.int .u8 C.qJ.toNat)
 row:Row NH w vw C.words
theorem Zw.no{w':World}{B o:Nat}{C:Th.C}{vw:Value}(h:Zw w B o C vw)(hm:Mod No w w'):Zw w' B o C vw:=⟨jD hm h.c0,jD hm h.c1,jD hm h.c2,jD hm h.c3,h.row.no hm⟩
theorem J6{C:Th.C}(h:C.Ok):C.words.length<=4∧∀t∈C.words,t.length<=10:=by
 match C,h with
 | .no,_=>exact⟨by decide,fun t ht=>by cases ht⟩
 | .word u,h=>exact⟨by simp[Th.C.words],fun t ht=>by simp[Th.C.words]at ht;subst ht;have:=h.2.2;omega⟩
 | .any v,h=>exact⟨by simp[Th.C.words],fun t ht=>by have:=h.2.2;simp[Th.C.words]at ht;rcases ht with rfl | rfl | rfl | rfl <;> simp <;> omega⟩
 | .or u v,h=>exact⟨by simp[Th.C.words],fun t ht=>by have:=h.1.2.2;have:=h.2.2.2;simp[Th.C.words]at ht;rcases ht with rfl | rfl <;> omega⟩
 | .loop x y,_=>exact⟨Nat.zero_le _,fun t ht=>by cases ht⟩
 | .ac,_=>exact⟨by decide,fun t ht=>by simp[Th.C.words]at ht;rcases ht with rfl | rfl <;> simp⟩
 | .nb v,h=>exact⟨by simp[Th.C.words],fun t ht=>by have:=h.2.2;simp[Th.C.words]at ht;rcases ht with rfl | rfl | rfl <;> simp <;> omega⟩
theorem GK(w:World)(B o:Nat)(C:Th.C)(vw:Value)(z:List UInt8)(hC:Zw w B o C vw)(hok:C.Ok)(hz:z.length<=1000000):J1 49 #[Jx B o,.string (sb z)] w fun e w'=>e=.returned (Jn w.heap.size (z.length+1) (z.length+1))∧Row lD w' (Jn w.heap.size (z.length+1) (z.length+1)) (pK C z)∧Mod No w w':=by
 have HC:=qH hC;have J7:Hd C.Ok:=hok;have sz:=ai z;have hmk:∀wx:World,(Instr.makeSlice 118 (I ((z.length:Int)+1)) (I ((z.length:Int)+1))).run prog wx=.ok (Jn wx.heap.size (z.length+1) (z.length+1)) (wx.alloc (.cells (replicate (z.length+1) (.bool false)).toArray 4)):=fun wx=>by
  have h:=S9 (z.length+1) (by omega) wx;rw[show ((z.length+1:Nat):Int)=(z.length:Int)+1 by omega]at h;exact h
 go_enter func49,ntmps49;go_wp2_with fail;go_loopg [6] (z.length+1) (fun g s6 wr=>∃j:Nat,j<=z.length+1∧g=j∧s6=I ((j:Int)-1)∧Row lD wr (Jn w.heap.size (z.length+1) (z.length+1)) (nU C z j)∧Mod No w wr)
 case atStart=>
  refine⟨z.length+1,dH _,rfl,by go_num,?_,(Mod.refl No w).alloc _⟩;have h:=Row.of_block (E:=lD) (xs:=nU C z (z.length+1)) (w:=w.alloc (.cells (replicate (z.length+1) (.bool false)).toArray 4)) (b:=w.heap.size) (by
   have e:(nU C z (z.length+1)).flatMap lD.f=replicate (z.length+1) (.bool false):=by
    unfold nU
    rw[drop_of_length_le (by rw[yM];omega),append_nil]
    rw[flatMap_replicate]
    simp[lD,flatten_replicate_singleton]
   rw[e]
   exact aG.new w _ _) (by rw[J5 C z (dH _)];unfold maxLen;omega)
  rw[J5 C z (dH _)]at h;exact h
 case round=>
  obtain⟨j,hj,hg,rfl,hrow,hM⟩:=hrel;rcases j with _ | i
  ·have HF:Hd (Row lD wr (Jn w.heap.size (z.length+1) (z.length+1)) (pK C z)):=by
    have e:nU C z 0=pK C z:=by unfold nU;simp
    rw[e]at hrow;exact hrow
   have HM:=qH hM;go_wp2_with fail;go_ret;exact⟨rfl,HF.o,HM.o⟩
  ·have hii:(((i+1:Nat):Int)-1)=(i:Int):=by omega
   rw[hii];have hiz:i<=z.length:=by omega
   have hi0:(0:Int)<=(i:Int):=by omega
   have hil:(i:Int)<((z.length+1:Nat):Int):=by omega
   have hcx:=HC.o.no hM;have c1:=hcx.c1;have hput:∀y,pI C z i=y->Row lD (wr.setCell (J w.heap.size i) (.bool y)) (Jn w.heap.size (z.length+1) (z.length+1)) (nU C z i):=fun y hy=>by
    rw[<-XG C z hiz,hy];exact aB4 hrow (Ov C z hiz) y
   have Zx:Hd _:=hput;have HMS:Hd (∀y,Mod No w (wr.setCell (J w.heap.size i) (.bool y))):=fun y=>hM.setCell (fun e=>absurd e (Nat.lt_irrefl _)) _
   have fi:=hrow.free i;have ci:=GH hrow (Ov C z hiz)
   cases hlo:fK C with
   | false=>
    rw[hlo]at c1;obtain⟨R,hR⟩:=eX (pI C z i);have hfo:=Oe wr B o vw C.words z i hcx.c0 hcx.row (J6 J7.o).1 hz hiz (J6 J7.o).2;rw[<-Sj hlo,<-hR]at hfo;have HR:=qH hR.symm;clear hput hrow hM hcx hR;go_wp2_with fail;refine hfo.mono ?_;rintro e w2 ⟨rfl,rfl⟩;go_wp2_with fail;go_roundg i
    case measure=>omega
    case rel=>exact⟨i,by omega,rfl,by go_num,Zx.o _ HR.o,HMS.o _⟩
   | true=>
    rw[hlo]at c1;have c2:=hcx.c2;have c3:=hcx.c3;by_cases hin:i<z.length
    ·have hzi:(i:Int)<z.length:=by omega
     have hfl:=XH hlo z hin;have cn:=GH hrow (Si C z hin);have hs1:i<(sb z).size:=by rw[ai];exact hin
     have hgz:=LC z i hs1;have hze:z[i]=(sb z)[i]:=by rw[bG hin]at hgz;exact dY hgz
     have hd1:=decide_eq_true hin;have hn1:((i+1:Nat):Int)<((z.length+1:Nat):Int):=by omega
     have hn2:(i:Int)+1<(z.length:Int)+1:=by omega
     have hn0:(0:Int)<=(i:Int)+1:=by omega
     rw[hze]at hfl;generalize hN:pI C z (i+1)=N at hfl cn;by_cases hcb:(sb z)[i]=C.qJ
     ·have HR:Hd (pI C z i=true):=qH <| by rw[hfl,hcb];simp
      have eb:((((sb z)[i]).toNat:Int)==(C.qJ.toNat:Int))=true:=by rw[hcb];simp
      go_wp2_with fail
      go_region
      all_goals
       go_wp2_with fail;go_roundg i
       case measure=>omega
       case rel=>exact⟨i,by omega,rfl,by go_num,(Zx.o _ HR.o).drew,(HMS.o _).drew⟩
     ·have eb:((((sb z)[i]).toNat:Int)==(C.qJ.toNat:Int))=false:=by
       rw[beq_eq_false_iff_ne];intro h;exact hcb (UInt8.toNat_inj.1 (by omega))
      by_cases hca:(sb z)[i]=C.loopA
      ·have ea:((((sb z)[i]).toNat:Int)==(C.loopA.toNat:Int))=true:=by rw[hca];simp
       have HR:Hd (pI C z i=N):=qH <| by
        have h1:((sb z)[i]==C.qJ)=false:=by simpa using hcb
        rw[hfl,h1,hca];simp
       clear hput hrow hM hcx hfl hze hgz hcb hca;go_wp2_with fail
       go_region
       all_goals
        go_wp2_with fail;go_roundg i
        case measure=>omega
        case rel=>exact⟨i,by omega,rfl,by go_num,(Zx.o _ HR.o).drew,(HMS.o _).drew⟩
      ·have ea:((((sb z)[i]).toNat:Int)==(C.loopA.toNat:Int))=false:=by
        rw[beq_eq_false_iff_ne];intro h;exact hca (UInt8.toNat_inj.1 (by omega))
       have HR:Hd (pI C z i=false):=qH <| by
        have h1:((sb z)[i]==C.qJ)=false:=by simpa using hcb
        have h2:((sb z)[i]==C.loopA)=false:=by simpa using hca
        rw[hfl,h1,h2];simp
       go_wp2_with fail
       go_region
       all_goals
        go_wp2_with fail;go_roundg i
        case measure=>omega
        case rel=>exact⟨i,by omega,rfl,by go_num,(Zx.o _ HR.o).drew,(HMS.o _).drew⟩
    ·have hzi:¬(i:Int)<z.length:=by omega
     have hd1:=lT hin;have HR:Hd (pI C z i=false):=qH <| by
      rw[show i=z.length by omega];exact Zv hlo z
     go_wp2_with fail
     go_region
     all_goals
      go_wp2_with fail;go_roundg i
      case measure=>omega
      case rel=>exact⟨i,by omega,rfl,by go_num,(Zx.o _ HR.o).drew,(HMS.o _).drew⟩
end Go.Proofs.YtoebidlghdidoaaGreatDoor
