import Derived.Test.YtoebidlghdidoaaGreatDoorBD
import Derived.Lib.Hide
set_option maxHeartbeats 2000000
set_option maxRecDepth 100000
namespace Go.Proofs.YtoebidlghdidoaaGreatDoor
open Tryz List
namespace Ld
open Go.RowKit
variable {w:World} {q:Nat} {a:Array Value} {t:TypeId} {α:Type}
theorem aEu(b:Nat)(s:ByteArray)(k:Nat)(bad:Bool)(w:World)(hs:s.size<=1048576)(hr:Rd w b s k bad):Calls prog 81 #[.pointer (some ⟨b,0,none⟩),.int .u8 45] w fun e w'=>e=.returned (.bool (dB s 45 k bad))∧Rd w' b s (if dB s 45 k bad=true then k+1 else k) bad∧w.grownBy w' (some b):=Fe b s k bad 45 w hs hr
theorem Jq(t:List UInt8):(⟨t.toArray⟩:ByteArray).toList.isEmpty=t.isEmpty:=by rw[toList_data]
theorem pM(b:Nat)(s:ByteArray)(k:Nat)(bad:Bool)(w:World)(hs:s.size<=1048576)(hk:k<=s.size)(hr:Rd w b s k bad):Calls prog 105 #[.pointer (some ⟨b,0,none⟩)] w fun e w'=>e=.returned (.string ⟨(bW s k bad).1.toArray⟩) ∧Rd w' b s (bW s k bad).2.1 (bad||(bW s k bad).2.2)∧w.grownBy w' (some b):=by
 have iY:=aEu b s k bad w hs hr
 cases hS:dB s 45 k bad with
 | true=>
  have HM:Hd (bW s k bad=([],k+1,false)):=by
   show bW s k bad=_;unfold bW;rw[hS,aP rfl]
  rw[hS]at iY;clear hS hr;go_enter func105,ntmps105;go_wp2_with fail;refine iY.mono ?_;rintro e w1 ⟨rfl,hr1,hg1⟩;have HR1:Hd (Rd w1 b s (k+1) bad):=hr1;clear iY hr1;go_wp2_with fail;go_ret;rw[HM.o];exact⟨rfl,by simpa using HR1.o,hg1⟩
 | false=>
  obtain⟨t,ht⟩:=eX (run pF s.data.toList k);have HM:Hd (bW s k bad=(t,k+t.length,t.isEmpty)):=by
   show bW s k bad=_;unfold bW;rw[hS,aU (by simp),<-ht]
  rw[hS]at iY;have hrun:=fun wx h=>Fg b s k bad wx hs hk h
  rw[<-ht]at hrun;clear hS hr ht;go_enter func105,ntmps105;go_wp2_with fail;refine iY.mono ?_;rintro e w1 ⟨rfl,hr1,hg1⟩;have hrun1:=hrun w1 hr1;clear iY hr1 hrun;go_wp2_with fail;refine hrun1.mono ?_;rintro e w2 ⟨rfl,hr2,hg2⟩;have hg3:=aJ hg1 hg2;clear hrun1 hg1 hg2
  cases he:t.isEmpty with
  | true=>
   have hse:(⟨t.toArray⟩:ByteArray).toList.isEmpty=true:=by rw[Jq];exact he
   have DC:=vU b s (k+t.length) bad w2 hr2;clear hr2;go_wp2_with fail;refine DC.mono ?_;rintro e w3 ⟨rfl,hr3,hg4⟩;have HR3:=qH hr3;clear DC hr3;go_wp2_with fail;go_ret;rw[HM.o,he];exact⟨rfl,by simpa using HR3.o,aJ hg3 hg4⟩
  | false=>
   have hse:(⟨t.toArray⟩:ByteArray).toList.isEmpty=false:=by rw[Jq];exact he
   have HR2:=qH hr2;clear hr2;go_wp2_with fail;go_ret;rw[HM.o,he];exact⟨rfl,by simpa using HR2.o,hg3⟩
abbrev aCA(b:Nat)(s:ByteArray)(k:Nat)(bad:Bool)(t:List UInt8)(w:World)(e:Ending)(w':World):Prop:=e=.returned (.int .i64 (lu t:Int))∧Rd w' b s (k+t.length) (bad||jQ t)∧w.grownBy w' (some b)
theorem jd(b:Nat)(s:ByteArray)(k:Nat)(bad:Bool)(w:World)(hs:s.size<=1048576)(hk:k<=s.size)(hr:Rd w b s k bad):Calls prog 106 #[.pointer (some ⟨b,0,none⟩)] w fun e w'=>aCA b s k bad (run nX s.data.toList k) w e w':=by
 have hrun:=YD b s k bad w hs hk hr;have hall:=aCz nX s.data.toList k;have hle:=tY nX s.data.toList k (by simpa using hk);obtain⟨t,ht⟩:=eX (run nX s.data.toList k);rw[<-ht]at hrun hall hle ⊢;obtain⟨D,hD⟩:∃D:ByteArray,D=⟨t.toArray⟩:=⟨_,rfl⟩;have hDs:D.size=t.length:=by rw[hD];show t.toArray.size=_;simp
 have hDt:D.data.toList=t:=by rw[hD]
 have hDg:∀i (h:i<D.size),t[i]?=some D[i]:=fun i h=>by rw[<-hDt];exact Lib.data_getElem? D i h
 have HST:Hd (∀i,i<t.length->∀h:i<D.size,(48:Int)<=(D[i].toNat:Int)∧(D[i].toNat:Int)<=57∧lu (t.take (i+1))=jm (lu (t.take i)) D[i]):=fun i hi h=>by
  have hg:=hDg i h;have hd:=hall _ (iI hg);have:=of_decide_eq_true hd;refine⟨by omega,by omega,?_⟩;rw[take_add_one,hg];exact Xy _ _
 have hlen:t.length<=1048576:=by simp at hle;omega
 have aFQ:∀e w',mQ b s k bad t w e w'->e=.returned (.string D)∧Rd w' b s (k+t.length) bad∧w.grownBy w' (some b):=fun e w' h=>by rw[hD];exact h
 have hrun2:=hrun.mono aFQ;have hhead:∀h:0<D.size,t.head?=some D[0]:=fun h=>by rw[head?_eq_getElem?];exact hDg 0 h
 have HHD:Hd _:=hhead;clear hrun aFQ hall hle ht hr hD hDt hDg hhead;by_cases h0:D.size=0
 ·have hse:D.toList.isEmpty=true:=by rw[fG];exact decide_eq_true h0
  have HB:Hd (jQ t=true):=qH <| by
   have:t=[]:=eq_nil_of_length_eq_zero (by omega);rw[this];rfl
  have h1:¬(1:Int)<(D.size:Int):=by omega
  go_enter func106,ntmps106;go_wp2_with fail;refine hrun2.mono ?_;rintro e w1 ⟨rfl,hr1,hg1⟩;have DC:=vU b s (k+t.length) bad w1 hr1;clear hrun2 hr1;go_wp2_with fail;refine DC.mono ?_;rintro e w2 ⟨rfl,hr2,hg2⟩;have HR2:Hd (Rd w2 b s (k+t.length) (bad||jQ t)):=qH <| by
   rw[HB.o,Bool.or_true];exact hr2
  have HG2:=qH (aJ hg1 hg2);clear DC hr2 hg1 hg2 HB;go_wp2
  go_loop [4,5] (fun nn ii=>∃i:Nat,i<=t.length∧ii=.int .i64 i∧nn=.int .i64 (lu (t.take i):Int)) (fun _ ii=>t.length-(intOf ii).toNat)
  case atStart=>exact⟨0,Nat.zero_le _,rfl,rfl⟩
  case round=>
   obtain⟨i,hi,rfl,rfl⟩:=hrel;by_cases hlt:i<D.size
   ·have hil:i<t.length:=by omega
    obtain⟨hb1,hb2,hnx⟩:=HST.o i hil hlt;have rM:=qH hnx;have hnl:=Du (t.take i);have wH:=qH (AQ t i);obtain⟨m,hm⟩:=eX (lu (t.take i));rw[<-hm]at hnl rM wH ⊢;clear hm hnx;have MN:(i:Int)<D.size:=by omega
    by_cases hm2:m<=200
    ·have Ae:(m:Int)<=200:=by omega
     go_wp2
     go_round
     case rel=>
      refine⟨i+1,by omega,by go_num,?_⟩;rw[rM.o];unfold jm;rw[aP hm2];have:((m*10+(D[i].toNat-48):Nat):Int)=(m:Int)*10+((D[i].toNat:Int)-48):=by omega
      rw[this]
     case measure=>simp[intOf];omega
    ·have Ae:¬(m:Int)<=200:=by omega
     go_wp2;go_ret;rw[<-wH.o (by omega)];exact⟨rfl,HR2.o,HG2.o⟩
   ·obtain rfl:i=t.length:=by omega
    have MN:¬((t.length:Nat):Int)<(D.size:Int):=by omega
    rw[take_length];go_wp2;go_ret;exact⟨rfl,HR2.o,HG2.o⟩
 ·have hse:D.toList.isEmpty=false:=by rw[fG];exact lT h0
  by_cases h1:1<D.size
  ·have h1i:(1:Int)<(D.size:Int):=by omega
   have h0s:0<D.size:=by omega
   by_cases hz:((D[0].toNat:Int)==48)=true
   ·have HB:Hd (jQ t=true):=qH <| by
     have hd0:D[0]=48:=UInt8.toNat_inj.1 (by simp at hz;simp;omega);unfold jQ;rw[HHD.o h0s,hd0];simp;exact Or.inr (by omega)
    go_enter func106,ntmps106;go_wp2_with fail;refine hrun2.mono ?_;rintro e w1 ⟨rfl,hr1,hg1⟩;have DC:=vU b s (k+t.length) bad w1 hr1;clear hrun2 hr1;go_wp2_with fail;refine DC.mono ?_;rintro e w2 ⟨rfl,hr2,hg2⟩;have HR2:Hd (Rd w2 b s (k+t.length) (bad||jQ t)):=qH <| by
     rw[HB.o,Bool.or_true];exact hr2
    have HG2:=qH (aJ hg1 hg2);clear DC hr2 hg1 hg2 HB;go_wp2
    go_loop [4,5] (fun nn ii=>∃i:Nat,i<=t.length∧ii=.int .i64 i∧nn=.int .i64 (lu (t.take i):Int)) (fun _ ii=>t.length-(intOf ii).toNat)
    case atStart=>exact⟨0,Nat.zero_le _,rfl,rfl⟩
    case round=>
     obtain⟨i,hi,rfl,rfl⟩:=hrel;by_cases hlt:i<D.size
     ·have hil:i<t.length:=by omega
      obtain⟨hb1,hb2,hnx⟩:=HST.o i hil hlt;have rM:=qH hnx;have hnl:=Du (t.take i);have wH:=qH (AQ t i);obtain⟨m,hm⟩:=eX (lu (t.take i));rw[<-hm]at hnl rM wH ⊢;clear hm hnx;have MN:(i:Int)<D.size:=by omega
      by_cases hm2:m<=200
      ·have Ae:(m:Int)<=200:=by omega
       go_wp2
       go_round
       case rel=>
        refine⟨i+1,by omega,by go_num,?_⟩;rw[rM.o];unfold jm;rw[aP hm2];have:((m*10+(D[i].toNat-48):Nat):Int)=(m:Int)*10+((D[i].toNat:Int)-48):=by omega
        rw[this]
       case measure=>simp[intOf];omega
      ·have Ae:¬(m:Int)<=200:=by omega
       go_wp2;go_ret;rw[<-wH.o (by omega)];exact⟨rfl,HR2.o,HG2.o⟩
     ·obtain rfl:i=t.length:=by omega
      have MN:¬((t.length:Nat):Int)<(D.size:Int):=by omega
      rw[take_length];go_wp2;go_ret;exact⟨rfl,HR2.o,HG2.o⟩
   ·have hzf:((D[0].toNat:Int)==48)=false:=by simpa using hz
    have HB:Hd (jQ t=false):=qH <| by
     have hd0:¬D[0]=48:=fun h=>by rw[h]at hz;simp at hz
     have hne:t.isEmpty=false:=by
      cases t with
      | nil=>have e:D.size=0:=hDs;omega
      | cons a l=>rfl
     unfold jQ;rw[HHD.o h0s,hne];simp[hd0]
    clear hz;go_enter func106,ntmps106;go_wp2_with fail;refine hrun2.mono ?_;rintro e w1 ⟨rfl,hr1,hg1⟩;have HR2:Hd (Rd w1 b s (k+t.length) (bad||jQ t)):=qH <| by
     rw[HB.o,Bool.or_false];exact hr1
    have HG2:=qH hg1;clear hrun2 hr1 hg1 HB;go_wp2
    go_loop [4,5] (fun nn ii=>∃i:Nat,i<=t.length∧ii=.int .i64 i∧nn=.int .i64 (lu (t.take i):Int)) (fun _ ii=>t.length-(intOf ii).toNat)
    case atStart=>exact⟨0,Nat.zero_le _,rfl,rfl⟩
    case round=>
     obtain⟨i,hi,rfl,rfl⟩:=hrel;by_cases hlt:i<D.size
     ·have hil:i<t.length:=by omega
      obtain⟨hb1,hb2,hnx⟩:=HST.o i hil hlt;have rM:=qH hnx;have hnl:=Du (t.take i);have wH:=qH (AQ t i);obtain⟨m,hm⟩:=eX (lu (t.take i));rw[<-hm]at hnl rM wH ⊢;clear hm hnx;have MN:(i:Int)<D.size:=by omega
      by_cases hm2:m<=200
      ·have Ae:(m:Int)<=200:=by omega
       go_wp2
       go_round
       case rel=>
        refine⟨i+1,by omega,by go_num,?_⟩;rw[rM.o];unfold jm;rw[aP hm2];have:((m*10+(D[i].toNat-48):Nat):Int)=(m:Int)*10+((D[i].toNat:Int)-48):=by omega
        rw[this]
       case measure=>simp[intOf];omega
      ·have Ae:¬(m:Int)<=200:=by omega
       go_wp2;go_ret;rw[<-wH.o (by omega)];exact⟨rfl,HR2.o,HG2.o⟩
     ·obtain rfl:i=t.length:=by omega
      have MN:¬((t.length:Nat):Int)<(D.size:Int):=by omega
      rw[take_length];go_wp2;go_ret;exact⟨rfl,HR2.o,HG2.o⟩
  ·have h1i:¬(1:Int)<(D.size:Int):=by omega
   have HB:Hd (jQ t=false):=qH <| by
    have hne:t.isEmpty=false:=by
     cases t with
     | nil=>have e:D.size=0:=hDs;omega
     | cons a l=>rfl
    unfold jQ;rw[hne];simp;intro h;omega
   go_enter func106,ntmps106;go_wp2_with fail;refine hrun2.mono ?_;rintro e w1 ⟨rfl,hr1,hg1⟩;have HR2:Hd (Rd w1 b s (k+t.length) (bad||jQ t)):=qH <| by
    rw[HB.o,Bool.or_false];exact hr1
   have HG2:=qH hg1;clear hrun2 hr1 hg1 HB;go_wp2
   go_loop [4,5] (fun nn ii=>∃i:Nat,i<=t.length∧ii=.int .i64 i∧nn=.int .i64 (lu (t.take i):Int)) (fun _ ii=>t.length-(intOf ii).toNat)
   case atStart=>exact⟨0,Nat.zero_le _,rfl,rfl⟩
   case round=>
    obtain⟨i,hi,rfl,rfl⟩:=hrel;by_cases hlt:i<D.size
    ·have hil:i<t.length:=by omega
     obtain⟨hb1,hb2,hnx⟩:=HST.o i hil hlt;have rM:=qH hnx;have hnl:=Du (t.take i);have wH:=qH (AQ t i);obtain⟨m,hm⟩:=eX (lu (t.take i));rw[<-hm]at hnl rM wH ⊢;clear hm hnx;have MN:(i:Int)<D.size:=by omega
     by_cases hm2:m<=200
     ·have Ae:(m:Int)<=200:=by omega
      go_wp2
      go_round
      case rel=>
       refine⟨i+1,by omega,by go_num,?_⟩;rw[rM.o];unfold jm;rw[aP hm2];have:((m*10+(D[i].toNat-48):Nat):Int)=(m:Int)*10+((D[i].toNat:Int)-48):=by omega
       rw[this]
      case measure=>simp[intOf];omega
     ·have Ae:¬(m:Int)<=200:=by omega
      go_wp2;go_ret;rw[<-wH.o (by omega)];exact⟨rfl,HR2.o,HG2.o⟩
    ·obtain rfl:i=t.length:=by omega
     have MN:¬((t.length:Nat):Int)<(D.size:Int):=by omega
     rw[take_length];go_wp2;go_ret;exact⟨rfl,HR2.o,HG2.o⟩
theorem MR(b:Nat)(s:ByteArray)(k:Nat)(bad:Bool)(w:World)(hs:s.size<=1048576)(hr:Rd w b s k bad):Calls prog 79 #[.pointer (some ⟨b,0,none⟩),.int .u8 32] w fun e w'=>e=.returned (.tuple #[])∧Rd w' b s (dL s 32 k bad).1 (dL s 32 k bad).2∧w.grownBy w' (some b):=vT b s k bad 32 w hs hr
theorem MS(b:Nat)(s:ByteArray)(k:Nat)(bad:Bool)(w:World)(hs:s.size<=1048576)(hr:Rd w b s k bad):Calls prog 79 #[.pointer (some ⟨b,0,none⟩),.int .u8 58] w fun e w'=>e=.returned (.tuple #[])∧Rd w' b s (dL s 58 k bad).1 (dL s 58 k bad).2∧w.grownBy w' (some b):=vT b s k bad 58 w hs hr
theorem aEv(b:Nat)(s:ByteArray)(k:Nat)(bad:Bool)(w:World)(hs:s.size<=1048576)(hr:Rd w b s k bad):Calls prog 79 #[.pointer (some ⟨b,0,none⟩),.int .u8 10] w fun e w'=>e=.returned (.tuple #[])∧Rd w' b s (dL s 10 k bad).1 (dL s 10 k bad).2∧w.grownBy w' (some b):=vT b s k bad 10 w hs hr
def str(l:List UInt8):Value:=.string ⟨l.toArray⟩
def St.cells(q:St):Array Value:=#[Ld.str q.en,Ld.str (q.sd.getD 0 []),Ld.str (q.sd.getD 1 []),Ld.str (q.sd.getD 2 []),Ld.str (q.sd.getD 3 []),.int .i64 (q.nx.getD 0 0:Nat),.int .i64 (q.nx.getD 1 0:Nat),.int .i64 (q.nx.getD 2 0:Nat),.int .i64 (q.nx.getD 3 0:Nat)]
theorem iE(s:ByteArray)(c:UInt8)(k:Nat)(bad:Bool)(hk:k<=s.size):(dL s c k bad).1<=s.size:=by
 unfold dL;split
 ·rename_i h;exact qK h
 ·exact hk
theorem rf(s:ByteArray)(k:Nat)(bad:Bool)(hk:k<=s.size):(bW s k bad).2.1<=s.size:=by
 unfold bW;split
 ·rename_i h;exact qK h
 ·have:=tY pF s.data.toList k (by simpa using hk);simpa using this
theorem aCB(s:ByteArray)(k:Nat)(hk:k<=s.size):k+(run nX s.data.toList k).length<=s.size:=by
 have:=tY nX s.data.toList k (by simpa using hk);simpa using this
theorem BP(s:ByteArray)(k:Nat)(bad:Bool)(hk:k<=s.size):∀n,(jb s k bad n).2.1<=s.size
 | 0=>rf s k bad hk
 | n+1=>aCB s _ (iE s 58 _ _ (rf s _ _ (iE s 32 _ _ (BP s k bad hk n))))
theorem Hq(s:ByteArray)(k:Nat)(bad:Bool):∀n,(jb s k bad n).1.sd.length=n∧(jb s k bad n).1.nx.length=n
 | 0=>⟨rfl,rfl⟩
 | n+1=>by
  have:=Hq s k bad n;simp[jb,vO,this.1,this.2]
theorem aO(h:w.heap[q]?=some (.cells a t (0,0)))(i:Nat)(v:Value)(hi:a[i]?=some v):w.cell? ⟨q,i,none⟩=some v:=by
 rw[cell_of_row w q i a t (0,0) h];exact hi
theorem bZ(h:w.heap[q]?=some (.cells a t (0,0)))(i:Nat):w.frozen? ⟨q,i,none⟩=false:=by
 simp[World.frozen?,h]
theorem kL(h:w.heap[q]?=some (.cells a t (0,0)))(i:Nat)(v:Value):(w.setCell ⟨q,i,none⟩ v).heap[q]?=some (.cells (a.setIfInBounds i v) t (0,0)):=by
 simp[World.setCell,Array.getElem?_modify,h]
theorem aj{b:Nat}{x:Option Obj}(h:w.heap[b]?=x)(i:Nat)(v:Value)(hne:b≠q):(w.setCell ⟨q,i,none⟩ v).heap[b]?=x:=by
 rw[Below.heap_setCell _ _ _ _ hne];exact h
theorem aY{w':World}{x:Obj}{row:Option Nat}(h:w.heap[q]?=some x)(hg:w.grownBy w' row)(hne:some q≠row):w'.heap[q]?=some x:=(hg.block q (Array.getElem?_eq_some_iff.1 h).1 hne).trans h
def zero9:Array Value:=#[.string ⟨#[]⟩,.string ⟨#[]⟩,.string ⟨#[]⟩,.string ⟨#[]⟩,.string ⟨#[]⟩,.int .i64 0,.int .i64 0,.int .i64 0,.int .i64 0]
theorem len1{l:List α}(h:l.length=1):∃a,l=[a]:=by
 match l,h with | [a],_=>exact⟨a,rfl⟩
theorem Wh{l:List α}(h:l.length=2):∃a b,l=[a,b]:=by
 match l,h with | [a,b],_=>exact⟨a,b,rfl⟩
theorem ZN{l:List α}(h:l.length=3):∃a b c,l=[a,b,c]:=by
 match l,h with | [a,b,c],_=>exact⟨a,b,c,rfl⟩
theorem Hr(w:World)(o p:Obj):((w.alloc o).alloc p).heap[w.heap.size]?=some o∧((w.alloc o).alloc p).heap[w.heap.size+1]?=some p:=by
 constructor
 ·show ((w.heap.push o).push p)[w.heap.size]?=_;simp only[Array.getElem?_push,Array.size_push];rw[aU (by omega),aP trivial]
 ·show ((w.heap.push o).push p)[w.heap.size+1]?=_;simp only[Array.getElem?_push,Array.size_push];rw[aP trivial]
theorem aAY(b:Nat)(s:ByteArray)(k:Nat)(bad:Bool)(w:World)(hs:s.size<=1048576)(hk:k<=s.size)(hr:Rd w b s k bad):Calls prog 69 #[.pointer (some ⟨b,0,none⟩)] w fun e w'=>e=.returned (.agg (kX s k bad).1.cells)∧Rd w' b s (kX s k bad).2.1 (kX s k bad).2.2∧w.grownBy w' (some b):=by
 have hblt:=hr.lt;have h2:=Hr w (.cells zero9 104 (0,0)) (.cells zero9 104 (0,0));go_enter func69,ntmps69;go_wp2_with fail;refine(pM b s k bad _ hs hk ((hr.alloc _).alloc _)).mono ?_;rintro e w1 ⟨rfl,hr1,hg1⟩;have hR1:=aY h2.1 hg1 (by simp;omega);have hQ1:=aY h2.2 hg1 (by simp;omega);have q0:=aO hQ1 0 _ rfl;have q1:=bZ hQ1 0;have HR1:=qH hR1;have U2:=qH hQ1;have HRd:Hd (Rd w1 b s (jb s k bad 0).2.1 (jb s k bad 0).2.2):=hr1;have HG:=qH (aJ (aJ (World.grownBy_alloc _ _ _) (World.grownBy_alloc _ _ _)) hg1);clear hR1 hQ1 hr1 hg1 h2 hr;go_wp2
 go_loopw [4] (fun v wr=>∃n:Nat,n<=4∧v=.int .i64 n∧Rd wr b s (jb s k bad n).2.1 (jb s k bad n).2.2∧wr.heap[w.heap.size]?=some (.cells zero9 104 (0,0)) ∧wr.heap[w.heap.size+1]?=some (.cells (jb s k bad n).1.cells 104 (0,0))∧w.grownBy wr (some b)) (fun v _=>4-(intOf v).toNat)
 case atStart=>
  refine⟨0,by omega,rfl,?_,?_,?_,?_⟩
  ·exact aj HRd.o _ _ (by omega)
  ·exact aj HR1.o _ _ (by omega)
  ·exact kL U2.o _ _
  ·exact bg HG.o (bD _ _ _ _) (fun g hg=>by cases hg;omega)
 case round=>
  obtain⟨n,hn,rfl,hrn,hRn,hQn,hgn⟩:=hrel;by_cases h4:n<4
  ·have hle:=BP s k bad hk n;have hln:=Hq s k bad n;obtain⟨x,hx⟩:=eX (jb s k bad n);rw[<-hx]at hrn hQn hle hln;have HX:Hd (jb s k bad (n+1)=vO s x):=by rw[hx];exact rfl
   clear hx q0 q1 HR1 U2 HRd HG;obtain⟨⟨fin,sd,nx⟩,kk,bd⟩:=x;simp only at hle hln hrn hQn;have hQl:=(Array.getElem?_eq_some_iff.1 hQn).1
   match n,hln,h4 with
   | 0,hln,h4=>
    obtain rfl:=eq_nil_of_length_eq_zero hln.1;obtain rfl:=eq_nil_of_length_eq_zero hln.2;clear hln;go_wp2_with fail;refine(MR b s kk bd wr hs hrn).mono ?_;rintro e w2 ⟨rfl,hr2,hg2⟩;go_wp2_with fail;refine(pM b s _ _ w2 hs (iE s 32 kk bd hle) hr2).mono ?_;rintro e w3 ⟨rfl,hr3,hg3⟩;have GY:=aY (aY hRn hg2 (by simp;omega)) hg3 (by simp;omega);have MV:=aY (aY hQn hg2 (by simp;omega)) hg3 (by simp;omega);have hG3:=aJ (aJ hgn hg2) hg3;have q0:=aO MV 1 _ rfl;have q1:=bZ MV 1;have hk3:=rf s _ (dL s 32 kk bd).2 (iE s 32 kk bd hle);go_wp2_with fail;refine(MS b s _ _ (w3.setCell ⟨w.heap.size+1,1,none⟩ _) hs (aj hr3 _ _ (by omega))).mono ?_;rintro e w4 ⟨rfl,hr4,hg4⟩;have I8:=aY (aj (q:=w.heap.size+1) GY _ _ (by omega)) hg4 (by simp;omega);have hQ4:=aY (kL MV _ _) hg4 (by simp;omega);have hG4:=aJ (bg hG3 (bD _ _ _ _) (fun g hg=>by cases hg;omega)) hg4;go_wp2_with fail;refine(jd b s _ _ w4 hs (iE s 58 _ _ hk3) hr4).mono ?_;rintro e w5 ⟨rfl,hr5,hg5⟩;have iH:=aY I8 hg5 (by simp;omega);have Ac:=aY hQ4 hg5 (by simp;omega);have hG5:=aJ hG4 hg5;clear q0 q1;have q0:=aO Ac 5 _ rfl;have q1:=bZ Ac 5;have Xn:Hd _:=iH;have U4:Hd _:=Ac;clear iH Ac I8 hQ4 GY MV hRn hQn;go_wp2
    go_roundw
    case rel=>
     refine⟨1,by omega,rfl,?_,?_,?_,?_⟩
     ·rw[HX.o];exact aj hr5 _ _ (by omega)
     ·exact aj Xn.o _ _ (by omega)
     ·rw[HX.o];exact kL U4.o _ _
     ·exact bg hG5 (bD _ _ _ _) (fun g hg=>by cases hg;omega)
    case measure=>simp[intOf]
   | 1,hln,h4=>
    obtain⟨a0,rfl⟩:=len1 hln.1;obtain⟨m0,rfl⟩:=len1 hln.2;clear hln;go_wp2_with fail;refine(MR b s kk bd wr hs hrn).mono ?_;rintro e w2 ⟨rfl,hr2,hg2⟩;go_wp2_with fail;refine(pM b s _ _ w2 hs (iE s 32 kk bd hle) hr2).mono ?_;rintro e w3 ⟨rfl,hr3,hg3⟩;have GY:=aY (aY hRn hg2 (by simp;omega)) hg3 (by simp;omega);have MV:=aY (aY hQn hg2 (by simp;omega)) hg3 (by simp;omega);have hG3:=aJ (aJ hgn hg2) hg3;have q0:=aO MV 2 _ rfl;have q1:=bZ MV 2;have hk3:=rf s _ (dL s 32 kk bd).2 (iE s 32 kk bd hle);go_wp2_with fail;refine(MS b s _ _ (w3.setCell ⟨w.heap.size+1,2,none⟩ _) hs (aj hr3 _ _ (by omega))).mono ?_;rintro e w4 ⟨rfl,hr4,hg4⟩;have I8:=aY (aj (q:=w.heap.size+1) GY _ _ (by omega)) hg4 (by simp;omega);have hQ4:=aY (kL MV _ _) hg4 (by simp;omega);have hG4:=aJ (bg hG3 (bD _ _ _ _) (fun g hg=>by cases hg;omega)) hg4;go_wp2_with fail;refine(jd b s _ _ w4 hs (iE s 58 _ _ hk3) hr4).mono ?_;rintro e w5 ⟨rfl,hr5,hg5⟩;have iH:=aY I8 hg5 (by simp;omega);have Ac:=aY hQ4 hg5 (by simp;omega);have hG5:=aJ hG4 hg5;clear q0 q1;have q0:=aO Ac 6 _ rfl;have q1:=bZ Ac 6;have Xn:Hd _:=iH;have U4:Hd _:=Ac;clear iH Ac I8 hQ4 GY MV hRn hQn;go_wp2
    go_roundw
    case rel=>
     refine⟨2,by omega,rfl,?_,?_,?_,?_⟩
     ·rw[HX.o];exact aj hr5 _ _ (by omega)
     ·exact aj Xn.o _ _ (by omega)
     ·rw[HX.o];exact kL U4.o _ _
     ·exact bg hG5 (bD _ _ _ _) (fun g hg=>by cases hg;omega)
    case measure=>simp[intOf]
   | 2,hln,h4=>
    obtain⟨a0,a1,rfl⟩:=Wh hln.1;obtain⟨m0,m1,rfl⟩:=Wh hln.2;clear hln;go_wp2_with fail;refine(MR b s kk bd wr hs hrn).mono ?_;rintro e w2 ⟨rfl,hr2,hg2⟩;go_wp2_with fail;refine(pM b s _ _ w2 hs (iE s 32 kk bd hle) hr2).mono ?_;rintro e w3 ⟨rfl,hr3,hg3⟩;have GY:=aY (aY hRn hg2 (by simp;omega)) hg3 (by simp;omega);have MV:=aY (aY hQn hg2 (by simp;omega)) hg3 (by simp;omega);have hG3:=aJ (aJ hgn hg2) hg3;have q0:=aO MV 3 _ rfl;have q1:=bZ MV 3;have hk3:=rf s _ (dL s 32 kk bd).2 (iE s 32 kk bd hle);go_wp2_with fail;refine(MS b s _ _ (w3.setCell ⟨w.heap.size+1,3,none⟩ _) hs (aj hr3 _ _ (by omega))).mono ?_;rintro e w4 ⟨rfl,hr4,hg4⟩;have I8:=aY (aj (q:=w.heap.size+1) GY _ _ (by omega)) hg4 (by simp;omega);have hQ4:=aY (kL MV _ _) hg4 (by simp;omega);have hG4:=aJ (bg hG3 (bD _ _ _ _) (fun g hg=>by cases hg;omega)) hg4;go_wp2_with fail;refine(jd b s _ _ w4 hs (iE s 58 _ _ hk3) hr4).mono ?_;rintro e w5 ⟨rfl,hr5,hg5⟩;have iH:=aY I8 hg5 (by simp;omega);have Ac:=aY hQ4 hg5 (by simp;omega);have hG5:=aJ hG4 hg5;clear q0 q1;have q0:=aO Ac 7 _ rfl;have q1:=bZ Ac 7;have Xn:Hd _:=iH;have U4:Hd _:=Ac;clear iH Ac I8 hQ4 GY MV hRn hQn;go_wp2
    go_roundw
    case rel=>
     refine⟨3,by omega,rfl,?_,?_,?_,?_⟩
     ·rw[HX.o];exact aj hr5 _ _ (by omega)
     ·exact aj Xn.o _ _ (by omega)
     ·rw[HX.o];exact kL U4.o _ _
     ·exact bg hG5 (bD _ _ _ _) (fun g hg=>by cases hg;omega)
    case measure=>simp[intOf]
   | 3,hln,h4=>
    obtain⟨a0,a1,a2,rfl⟩:=ZN hln.1;obtain⟨m0,m1,m2,rfl⟩:=ZN hln.2;clear hln;go_wp2_with fail;refine(MR b s kk bd wr hs hrn).mono ?_;rintro e w2 ⟨rfl,hr2,hg2⟩;go_wp2_with fail;refine(pM b s _ _ w2 hs (iE s 32 kk bd hle) hr2).mono ?_;rintro e w3 ⟨rfl,hr3,hg3⟩;have GY:=aY (aY hRn hg2 (by simp;omega)) hg3 (by simp;omega);have MV:=aY (aY hQn hg2 (by simp;omega)) hg3 (by simp;omega);have hG3:=aJ (aJ hgn hg2) hg3;have q0:=aO MV 4 _ rfl;have q1:=bZ MV 4;have hk3:=rf s _ (dL s 32 kk bd).2 (iE s 32 kk bd hle);go_wp2_with fail;refine(MS b s _ _ (w3.setCell ⟨w.heap.size+1,4,none⟩ _) hs (aj hr3 _ _ (by omega))).mono ?_;rintro e w4 ⟨rfl,hr4,hg4⟩;have I8:=aY (aj (q:=w.heap.size+1) GY _ _ (by omega)) hg4 (by simp;omega);have hQ4:=aY (kL MV _ _) hg4 (by simp;omega);have hG4:=aJ (bg hG3 (bD _ _ _ _) (fun g hg=>by cases hg;omega)) hg4;go_wp2_with fail;refine(jd b s _ _ w4 hs (iE s 58 _ _ hk3) hr4).mono ?_;rintro e w5 ⟨rfl,hr5,hg5⟩;have iH:=aY I8 hg5 (by simp;omega);have Ac:=aY hQ4 hg5 (by simp;omega);have hG5:=aJ hG4 hg5;clear q0 q1;have q0:=aO Ac 8 _ rfl;have q1:=bZ Ac 8;have Xn:Hd _:=iH;have U4:Hd _:=Ac;clear iH Ac I8 hQ4 GY MV hRn hQn;go_wp2
    go_roundw
    case rel=>
     refine⟨4,by omega,rfl,?_,?_,?_,?_⟩
     ·rw[HX.o];exact aj hr5 _ _ (by omega)
     ·exact aj Xn.o _ _ (by omega)
     ·rw[HX.o];exact kL U4.o _ _
     ·exact bg hG5 (bD _ _ _ _) (fun g hg=>by cases hg;omega)
    case measure=>simp[intOf]
  ·obtain rfl:n=4:=by omega
   clear q0 q1 HR1 U2 HRd HG;go_wp2_with fail;refine(aEv b s _ _ wr hs hrn).mono ?_;rintro e w2 ⟨rfl,hr2,hg2⟩;have hR2:=aY hRn hg2 (by simp;omega);have hQ2:=aY hQn hg2 (by simp;omega);have HR2:Hd (Rd w2 b s (kX s k bad).2.1 (kX s k bad).2.2):=hr2;have HG2:=qH (aJ hgn hg2);obtain⟨x,hx⟩:=eX ((jb s k bad 4).1);have HX:Hd ((kX s k bad).1=x):=by rw[hx];exact rfl
   rw[<-hx]at hQ2;clear hx hRn hQn hrn hr2;obtain⟨S0,S1,S2,S3,S4,N0,N1,N2,N3,hc⟩:∃(S0 S1 S2 S3 S4:ByteArray) (N0 N1 N2 N3:Int),x.cells=#[.string S0,.string S1,.string S2,.string S3,.string S4,.int .i64 N0,.int .i64 N1,.int .i64 N2,.int .i64 N3]:=⟨_,_,_,_,_,_,_,_,_,rfl⟩;rw[hc]at hQ2;have HC:Hd ((kX s k bad).1.cells=#[.string S0,.string S1,.string S2,.string S3,.string S4,.int .i64 N0,.int .i64 N1,.int .i64 N2,.int .i64 N3]):=by
    show (kX s k bad).1.cells=_;rw[HX.o,hc]
   clear hc HX;have a0:w2.cell? ⟨w.heap.size+1,0,none⟩=some (.string S0):=aO hQ2 0 _ rfl;have b0:w2.cell? ⟨w.heap.size,0,none⟩=some (.string ⟨#[]⟩):=aO hR2 0 _ rfl;have f0:=bZ hR2 0;have a1:w2.cell? ⟨w.heap.size+1,1,none⟩=some (.string S1):=aO hQ2 1 _ rfl;have b1:w2.cell? ⟨w.heap.size,1,none⟩=some (.string ⟨#[]⟩):=aO hR2 1 _ rfl;have f1:=bZ hR2 1;have a2:w2.cell? ⟨w.heap.size+1,2,none⟩=some (.string S2):=aO hQ2 2 _ rfl;have b2:w2.cell? ⟨w.heap.size,2,none⟩=some (.string ⟨#[]⟩):=aO hR2 2 _ rfl;have f2:=bZ hR2 2;have a3:w2.cell? ⟨w.heap.size+1,3,none⟩=some (.string S3):=aO hQ2 3 _ rfl;have b3:w2.cell? ⟨w.heap.size,3,none⟩=some (.string ⟨#[]⟩):=aO hR2 3 _ rfl;have f3:=bZ hR2 3;have a4:w2.cell? ⟨w.heap.size+1,4,none⟩=some (.string S4):=aO hQ2 4 _ rfl;have b4:w2.cell? ⟨w.heap.size,4,none⟩=some (.string ⟨#[]⟩):=aO hR2 4 _ rfl;have f4:=bZ hR2 4;have a5:w2.cell? ⟨w.heap.size+1,5,none⟩=some (.int .i64 N0):=aO hQ2 5 _ rfl;have b5:w2.cell? ⟨w.heap.size,5,none⟩=some (.int .i64 0):=aO hR2 5 _ rfl;have f5:=bZ hR2 5;have a6:w2.cell? ⟨w.heap.size+1,6,none⟩=some (.int .i64 N1):=aO hQ2 6 _ rfl;have b6:w2.cell? ⟨w.heap.size,6,none⟩=some (.int .i64 0):=aO hR2 6 _ rfl;have f6:=bZ hR2 6;have a7:w2.cell? ⟨w.heap.size+1,7,none⟩=some (.int .i64 N2):=aO hQ2 7 _ rfl;have b7:w2.cell? ⟨w.heap.size,7,none⟩=some (.int .i64 0):=aO hR2 7 _ rfl;have f7:=bZ hR2 7;have a8:w2.cell? ⟨w.heap.size+1,8,none⟩=some (.int .i64 N3):=aO hQ2 8 _ rfl;have b8:w2.cell? ⟨w.heap.size,8,none⟩=some (.int .i64 0):=aO hR2 8 _ rfl;have f8:=bZ hR2 8;have HRR:Hd _:=hR2;clear hR2 hQ2;go_wp2;refine bodyPost_ret (v:=.agg #[.string S0,.string S1,.string S2,.string S3,.string S4,.int .i64 N0,.int .i64 N1,.int .i64 N2,.int .i64 N3]) (by simp[results,results69,go_sem,b0,b1,b2,b3,b4,b5,b6,b7,b8]) rfl ⟨by rw[HC.o],?_,?_⟩
   ·have hbn:b≠w.heap.size:=by omega
    exact aj (aj (aj (aj (aj (aj (aj (aj (aj HR2.o _ _ hbn) _ _ hbn) _ _ hbn) _ _ hbn) _ _ hbn) _ _ hbn) _ _ hbn) _ _ hbn) _ _ hbn
   ·have hn:∀g,some w.heap.size=some g->w.heap.size<=g:=fun g hg=>by cases hg;omega
    exact bg (bg (bg (bg (bg (bg (bg (bg (bg HG2.o (bD _ _ _ _) hn) (bD _ _ _ _) hn) (bD _ _ _ _) hn) (bD _ _ _ _) hn) (bD _ _ _ _) hn) (bD _ _ _ _) hn) (bD _ _ _ _) hn) (bD _ _ _ _) hn) (bD _ _ _ _) hn
end Ld
namespace Ld
open Go.RowKit
attribute [local go_sem ↓] Go.wp_at_zero Go.wp_at_succ
variable {w:World} {base size n:Nat} {e:TypeId} {v:Value} {xs:List Value}
theorem aIH:(prog.info? 104).map (fun i=>(i.zero,i.size,i.bytes))=some (some (.agg zero9),9,112):=by kernel_rfl
def flat(aC:List St):List Value:=aC.flatMap fun q=>q.cells.toList
theorem YE(aC:List St)(q:St):flat (aC++[q])=flat aC++q.cells.toList:=by simp[flat]
theorem Q9(s:ByteArray)(c:UInt8)(k:Nat)(bad:Bool):k<=(dL s c k bad).1:=by
 unfold dL;split <;> simp
theorem aAZ(s:ByteArray)(c:UInt8)(k:Nat)(bad:Bool)(h:(dL s c k bad).2=false):(dL s c k bad).1=k+1∧s.data.toList[k]?=some c∧bad=false:=by
 unfold dL at h ⊢;split at h
 ·rename_i hc;rw[aP hc];unfold dB at hc;rw[Bool.and_eq_true]at hc;exact⟨rfl,of_decide_eq_true hc.2,h⟩
 ·cases h
theorem Qa(s:ByteArray)(k:Nat)(bad:Bool):k<=(bW s k bad).2.1:=by
 unfold bW;split <;> simp
theorem Jr(s:ByteArray)(k:Nat)(bad:Bool):∀n,k<=(jb s k bad n).2.1
 | 0=>Qa _ _ _
 | n+1=>by
  have h1:=Jr s k bad n;obtain⟨x,hx⟩:=eX (jb s k bad n);rw[<-hx]at h1;simp only[jb,<-hx,vO];have h2:=Q9 s 32 x.2.1 x.2.2;have h3:=Qa s (dL s 32 x.2.1 x.2.2).1 (dL s 32 x.2.1 x.2.2).2;have h4:=Q9 s 58 (bW s (dL s 32 x.2.1 x.2.2).1 (dL s 32 x.2.1 x.2.2).2).2.1 ((dL s 32 x.2.1 x.2.2).2||(bW s (dL s 32 x.2.1 x.2.2).1 (dL s 32 x.2.1 x.2.2).2).2.2);omega
theorem aA0(s:ByteArray)(k:Nat)(bad:Bool)(h:(kX s k bad).2.2=false):k<(kX s k bad).2.1:=by
 have h1:=Jr s k bad 4;have h2:=aAZ s 10 _ _ h;show k<(dL s 10 _ _).1;rw[h2.1];omega
theorem aA1(s:ByteArray)(k:Nat)(bad:Bool)(hk:k<=s.size):(kX s k bad).2.1<=s.size:=iE s 10 _ _ (BP s k bad hk 4)
theorem Qb(h:w.ownsRow base e size v n xs):∃a cap,v=.slice a n cap:=by
 rcases h.2 with ⟨rfl,rfl⟩ | ⟨g,cap,cur,rfl,_⟩
 ·exact⟨_,_,rfl⟩
 ·exact⟨_,_,rfl⟩
theorem own_base{base':Nat}(h:w.ownsRow base e size v n xs)(hb:base'<=base):w.ownsRow base' e size v n xs:=by
 refine⟨h.1,?_⟩;rcases h.2 with h2 | ⟨g,cap,cur,rfl,hg,r⟩
 ·exact .inl h2
 ·exact .inr ⟨g,cap,cur,rfl,Nat.le_trans hb hg,r⟩
theorem U6(s:ByteArray)(f k:Nat)(aC:List St)(h:¬k<s.size):cZ s f k aC=some aC:=by
 cases f <;> simp[cZ,h]
theorem YF(s:ByteArray)(f k:Nat)(aC:List St)(h:k<s.size)(h2:aC.length=200):cZ s f k aC=none:=by
 cases f <;> simp[cZ,h,h2]
theorem YG(s:ByteArray)(f k:Nat)(aC:List St)(h:k<s.size)(h2:(kX s k false).2.2=true):cZ s f k aC=none:=by
 cases f <;> simp[cZ,h,h2]
theorem U7(s:ByteArray)(f k:Nat)(aC:List St)(h:k<s.size)(hf:s.size-k<=f)(h2:¬aC.length=200)(h3:(kX s k false).2.2=false):∃f',f=f'+1∧cZ s f' (kX s k false).2.1 (aC++[(kX s k false).1])=cZ s f k aC:=by
 match f,hf with
 | 0,hf=>omega
 | f'+1,hf=>exact⟨f',rfl,by simp[cZ,h,h2,h3]⟩
theorem sD{B:Nat}{a:World}(h:Below B a w)(n:Nat):Below B a (w.drewN n):=⟨h.os,h.tape,h.output,h.size,h.block⟩
def zl(s:ByteArray)(w:World)(e:Ending)(w':World):Prop:=Below w.heap.size w w'∧(match cZ s s.size 0 []with
  | none=>e=.returned (.tuple #[.slice none 0 0,.bool false])
  | some aC=>aC.length<=200∧∃v,e=.returned (.tuple #[v,.bool (decide (0<aC.length))])∧w'.ownsRow w.heap.size 104 9 v aC.length (flat aC))
theorem Ht(s:ByteArray)(w:World)(hs:s.size<=1048576):Calls prog 40 #[.string s] w fun e w'=>zl s w e w':=by
 obtain⟨i0,af,hz0,hz1,hz2⟩:=info_parts aIH;have hnew:=new_any s w;go_enter func40,ntmps40;go_wp2_with fail;refine hnew.mono ?_;rintro e w0 ⟨rfl,hb0⟩;have hsz0:=hb0.size;clear hnew;go_wp2_with fail;obtain⟨B,hB⟩:=eX w0.heap.size;rw[<-hB];have HHB:=qH hB;have hwB:w.heap.size<=B:=by rw[hB];exact hsz0
 clear hB
 go_loopw [5] (fun v wr=>∃(f kk:Nat) (aC:List St),wr.ownsRow (B+1) 104 9 v aC.length (flat aC)∧Rd wr B s kk false∧kk<=s.size∧cZ s f kk aC=cZ s s.size 0 []∧s.size-kk<=f ∧aC.length<=200∧Below w.heap.size w wr) (fun _ wr=>s.size-NJ wr B)
 case atStart=>
  refine⟨s.size,0,[],World.ownsRow_nil _ _ _ _,?_,by omega,rfl,by omega,by simp,?_⟩
  ·rw[HHB.o];exact heap_alloc_new w0 _
  ·exact hb0.alloc hsz0 _
 case round=>
  obtain⟨f,kk,aC,hown,hrd,hkk,hM,hf,hl,hbl⟩:=hrel;obtain⟨a0,cap0,rfl⟩:=Qb hown;have aFO:=hrd.lt;have HRD:=qH hrd;have HM:=qH hM;have hleft:=Ff B s kk false wr hs hkk hrd;clear hM;by_cases hlt:kk<s.size
  ·have hpos:(0:Int)<(s.size:Int)-(kk:Int):=by omega
   go_wp2_with fail;refine hleft.mono ?_;rintro e w5 ⟨rfl,n5,rfl⟩;clear hleft;by_cases aFR:aC.length=200
   ·have aFS:(aC.length:Int)=200:=by omega
    have e:=HM.o;rw[YF s f kk aC hlt aFR]at e;have HE:=qH e;clear e;go_wp2_with fail;go_ret2;refine⟨sD hbl _,?_⟩;rw[<-HE.o];rfl
   ·have aFS:¬(aC.length:Int)=200:=by omega
    have CU:=aAY B s kk false (wr.drewN n5) hs hkk (hrd.drewN n5);obtain⟨q,hq⟩:=eX (kX s kk false);rw[<-hq]at CU;obtain⟨⟨q,k',bd⟩,rfl⟩:∃q',q'=q:=⟨q,rfl⟩;obtain⟨S0,S1,S2,S3,S4,N0,N1,N2,N3,hc⟩:∃(S0 S1 S2 S3 S4:ByteArray) (N0 N1 N2 N3:Int),q.cells=#[.string S0,.string S1,.string S2,.string S3,.string S4,.int .i64 N0,.int .i64 N1,.int .i64 N2,.int .i64 N3]:=⟨_,_,_,_,_,_,_,_,_,rfl⟩;simp only[hc]at CU;have HQ:=qH hq;have HC:=qH hc;clear hq hc;go_wp2_with fail;refine CU.mono ?_;rintro e w2 ⟨rfl,hr2,hg2⟩;have aA2:=(sD hbl n5).grown hg2 (by simp;omega) (fun g hg=>by cases hg;omega);have hsz2:=hg2.size;have hownd:(wr.drewN n5).ownsRow (B+1) 104 9 (.slice a0 aC.length cap0) aC.length (flat aC):=hown;have hown2:=hownd.kept hg2 (by
     rcases hv:(Value.slice a0 aC.length cap0).ownBlock with _ | g
     ·exact Or.inl rfl
     ·right;intro e;have:=(hown.lt g hv).1;cases e;omega)
    have hlt2:=hr2.lt;have hne2:¬B=w2.heap.size:=by omega
    have hbad:=fun o=>BA B s k' bd (w2.alloc o) (hr2.alloc o)
    have HBAD:Hd _:=hbad;clear hbad
    cases bd with
    | true=>
     have HE:Hd (none=cZ s s.size 0 []):=by
      show none=_;rw[<-HM.o,YG s f kk aC hlt (by rw[<-HQ.o])]
     go_wp2_with (go_at_call 70;refine(HBAD.o _).mono ?_;rintro e w' ⟨rfl,rfl⟩);go_ret2;refine⟨aA2.alloc (by omega) _,?_⟩;rw[<-HE.o];rfl
    | false=>
     have hvb:=fun g (hg:(Value.slice a0 aC.length cap0).ownBlock=some g)=>(hown.lt g hg).1
     clear hown hownd CU hrd;have HR2:=qH hr2;have HB2:=qH aA2;clear hr2 aA2 hbl hg2;go_wp2_with (first | (go_at_call 70;refine(HBAD.o _).mono ?_;rintro e w' ⟨rfl,rfl⟩) | (at_builtin;refine wpList_append_lies _ rfl _ _ 97 rfl (B+1) 104 i0 _ 9 112 underlying97 af hz0 hz1 hz2 rfl (by omega) (.slice a0 aC.length cap0) aC.length (flat aC) rfl ((hown2.alloc _).alloc _) ⟨w2.heap.size+1,0,none⟩ 1 1 [.string S0,.string S1,.string S2,.string S3,.string S4,.int .i64 N0,.int .i64 N1,.int .i64 N2,.int .i64 N3] rfl rfl ?c1 ?c2 (by omega) (by unfold maxLen;omega) (by omega) (by simp;omega) (w2.heap.size+2) (by simp) ?_))
     case c1=>exact World.news_of_block (cs:=#[.string S0,.string S1,.string S2,.string S3,.string S4,.int .i64 N0,.int .i64 N1,.int .i64 N2,.int .i64 N3]) (t:=104) (fr:=(0,0)) (Hr w2 _ _).2
     case c2=>intro u hu;simp at hu;rcases hu with rfl | rfl | rfl | rfl | rfl | rfl | rfl | rfl | rfl <;> rfl
     intro gg cap w3 hown3 hgrow hat fJ;have HR3:=qH (Rd.grown ((HR2.o.alloc _).alloc _) hgrow (fun e=>by have:=hvb _ e.symm;omega));have HB3:=qH (((HB2.o.alloc (by omega) _).alloc (by simp;omega) _).grown hgrow (by simp;omega) (fun g hg=>by have:=hvb g hg;omega));have YX:Hd (w3.ownsRow (B+1) 104 9 (.slice (some ⟨gg,0,none⟩) (aC.length+1) cap) (aC++[q]).length (flat (aC++[q]))):=qH <| by
      rw[YE,HC.o,length_append];exact hown3
     clear hown3 hgrow hat fJ hown2 af hz0 hz1 hz2;go_wp2;have hk':=aA1 s kk false hkk;have hgt:=aA0 s kk false (by rw[<-HQ.o]);obtain⟨f',rfl,hst⟩:=U7 s f kk aC hlt hf aFR (by rw[<-HQ.o]);rw[<-HQ.o]at hk' hgt hst
     go_roundw
     case rel=>exact⟨f',k',aC++[q],YX.o,HR3.o,hk',hst.trans HM.o,by simp only at hgt;omega,by simp;omega,HB3.o⟩
     case measure=>exact Dk HRD.o HR3.o hgt hlt
  ·have hpos:¬(0:Int)<(s.size:Int)-(kk:Int):=by omega
   have e:=HM.o;rw[U6 s f kk aC hlt]at e;have HE:=qH e;clear e;go_wp2_with fail;refine hleft.mono ?_;rintro e w5 ⟨rfl,n5,rfl⟩;clear hleft;go_wp2_with fail;go_ret2;refine⟨sD hbl _,?_⟩;rw[<-HE.o];refine⟨hl,_,?_,own_base hown (by omega)⟩;simp
end Ld
end Go.Proofs.YtoebidlghdidoaaGreatDoor
