import Derived.Test.YtoebidlghdidoaaGreatDoorAJ
import Derived.Deep.RegionLaw
set_option maxHeartbeats 4000000
set_option maxRecDepth 100000
namespace Go.Proofs.YtoebidlghdidoaaGreatDoor
open Th M2 aI Tryz List
section
open Go.RowKit
open Ld (run dB dL)
variable {w w1 w2:World} {row:Option Nat} {s:ByteArray} {k:Nat} {c:UInt8}
theorem F6(p:UInt8->Bool):∀(l:List UInt8) (j:Nat),j<=(l.takeWhile p).length->(j<(l.takeWhile p).length↔∃c,l[j]?=some c∧p c=true)
 | [],j,h=>by simp
 | a::l,j,h=>by
  by_cases ha:p a=true
  ·rw[takeWhile_cons_of_pos ha]at h ⊢
   match j with
   | 0=>simp[ha]
   | j+1=>
    have:=F6 p l j (by simpa using h);simpa using this
  ·rw[takeWhile_cons_of_neg ha]at h ⊢;have:j=0:=by simpa using h
   subst this;simp[ha]
theorem F7(p:UInt8->Bool):∀(l:List UInt8) (j:Nat),j<(l.takeWhile p).length->(l.takeWhile p)[j]?=l[j]?
 | [],j,h=>by simp at h
 | a::l,j,h=>by
  by_cases ha:p a=true
  ·rw[takeWhile_cons_of_pos ha]at h ⊢
   match j with
   | 0=>simp
   | j+1=>simpa using F7 p l j (by simpa using h)
  ·rw[takeWhile_cons_of_neg ha]at h;simp at h
theorem Zi(p:UInt8->Bool)(l:List UInt8):(l.takeWhile p).length<=l.length:=(takeWhile_sublist p).length_le
theorem LH(p:UInt8->Bool)(l:List UInt8)(k j:Nat)(h:j<=(run p l k).length):(j<(run p l k).length↔∃c,l[k+j]?=some c∧p c=true):=by
 have:=F6 p (l.drop k) j h;simpa [run] using this
theorem run_get(p:UInt8->Bool)(l:List UInt8)(k j:Nat)(h:j<(run p l k).length):(run p l k)[j]?=l[k+j]?:=by
 have:=F7 p (l.drop k) j h;simpa [run] using this
theorem tY(p:UInt8->Bool)(l:List UInt8)(k:Nat)(hk:k<=l.length):k+(run p l k).length<=l.length:=by
 have:=Zi p (l.drop k);simp at this;simp only[run];omega
theorem F8(p:UInt8->Bool)(l:List UInt8)(k j:Nat)(c:UInt8)(h:j<(run p l k).length)(hc:l[k+j]?=some c):(run p l k).take (j+1)=(run p l k).take j++[c]:=by
 have hg:=run_get p l k j h;rw[take_add_one,hg,hc];rfl
def Rd(w:World)(b:Nat)(X:List Value)(T:Nat)(s:ByteArray)(k:Nat)(bad:Bool):Prop:=aG w b (.string s::I k::.bool bad::X) T
theorem Rd.c0{w b X T s k bad}(h:Rd w b X T s k bad):w.cell? (J b 0)=some (.string s):=aG.cell h 0 rfl
theorem Rd.c1{w b X T s k bad}(h:Rd w b X T s k bad):w.cell? (J b 1)=some (I k):=aG.cell h 1 rfl
theorem Rd.c2{w b X T s k bad}(h:Rd w b X T s k bad):w.cell? (J b 2)=some (.bool bad):=aG.cell h 2 rfl
theorem Rd.f1{w b X T s k bad}(h:Rd w b X T s k bad):w.frozen? (J b 1)=false:=aG.free h 1
theorem Rd.f2{w b X T s k bad}(h:Rd w b X T s k bad):w.frozen? (J b 2)=false:=aG.free h 2
theorem Rd.lt{w b X T s k bad}(h:Rd w b X T s k bad):b<w.heap.size:=aG.lt h
theorem Rd.set1{w b X T s k bad}(h:Rd w b X T s k bad)(k':Nat):Rd (w.setCell (J b 1) (I k')) b X T s k' bad:=aG.set h 1 _
theorem Rd.set2{w b X T s k bad}(h:Rd w b X T s k bad):Rd (w.setCell (J b 2) (.bool true)) b X T s k true:=aG.set h 2 _
theorem Rd.drewN{w b X T s k bad}(h:Rd w b X T s k bad)(n:Nat):Rd (w.drewN n) b X T s k bad:=h
theorem bD(w:World)(b o:Nat)(v:Value):w.grownBy (w.setCell (J b o) v) (some b):=⟨rfl,rfl,rfl,by simp[World.setCell],fun k _ hne=>Below.heap_setCell _ _ _ _ (by intro h;exact hne (by rw[h]))⟩
theorem grown_drewN(w:World)(n:Nat)(row:Option Nat):w.grownBy (w.drewN n) row:=⟨rfl,rfl,rfl,dH _,fun _ _ _=>rfl⟩
theorem aJ(h1:w.grownBy w1 row)(h2:w1.grownBy w2 row):w.grownBy w2 row:=⟨h2.os.trans h1.os,h2.tape.trans h1.tape,h2.output.trans h1.output,Nat.le_trans h1.size h2.size,fun k hk hne=>(h2.block k (Nat.lt_of_lt_of_le hk h1.size) hne).trans (h1.block k hk hne)⟩
theorem Dj(h:s.size<=k):s.data.toList[k]?=none:=getElem?_eq_none (by simpa using h)
theorem tZ(h:k<s.size):s.data.toList[k]?=some s[k]:=by
 rw[bG (by simpa using h)];rfl
theorem Fa(s:ByteArray)(c:UInt8)(k:Nat):dB s c k true=false:=rfl
theorem vS(bad:Bool)(h:s.size<=k):dB s c k bad=false:=by
 unfold dB;rw[Dj h];simp
theorem Fb(h:k<s.size)(hc:s[k]=c):dB s c k false=true:=by
 unfold dB;rw[tZ h,hc];simp
theorem Az(bad:Bool)(h:k<s.size)(hc:s[k]≠c):dB s c k bad=false:=by
 unfold dB;rw[tZ h];simp[hc]
theorem rJ(b:Nat)(X:List Value)(T:Nat)(s:ByteArray)(k:Nat)(bad:Bool)(c:UInt8)(w:World)(_hs:s.size<=1048576)(hr:Rd w b X T s k bad):J1 113 #[Jx b 0,.int .u8 c.toNat] w fun e w'=>e=.returned (.bool (dB s c k bad))∧∃n,w'=w.drewN n:=by
 have c0:=hr.c0;have c1:=hr.c1;have c2:=hr.c2
 cases bad with
 | true=>
  rw[Fa];go_enter func113,ntmps113;go_wp2;go_quiet (fail);go_wp2;go_ret;exact⟨rfl,_,rfl⟩
 | false=>
  by_cases hk:k<s.size
  ·have hi:(k:Int)<s.size:=by omega
   have hi0:(0:Int)<=(k:Int):=by omega
   have hd:=decide_eq_true hk;by_cases hc:s[k]=c
   ·have e:=Fb hk hc;rw[e];have hne:((s[k].toNat:Int)==(c.toNat:Int))=true:=by rw[hc];simp
    go_enter func113,ntmps113;go_wp2;go_quiet (fail);go_wp2;go_ret;exact⟨rfl,_,rfl⟩
   ·have e:=Az false hk hc;rw[e];have hne:((s[k].toNat:Int)==(c.toNat:Int))=false:=by
     rw[beq_eq_false_iff_ne];intro h;exact hc (UInt8.toNat_inj.1 (by omega))
    go_enter func113,ntmps113;go_wp2;go_quiet (fail);go_wp2;go_ret;exact⟨rfl,_,rfl⟩
  ·have e:dB s c k false=false:=vS false (by omega);rw[e];have hi:(s.size:Int)<=k:=by omega
   have hd:=lT hk;go_enter func113,ntmps113;go_wp2;go_quiet (fail);go_wp2;go_ret;exact⟨rfl,_,rfl⟩
theorem qK{bad:Bool}(h:dB s c k bad=true):k<s.size:=by
 rcases iK k s.size with h2 | h2
 ·exact h2
 ·rw[vS bad h2]at h;cases h
theorem vT(b:Nat)(X:List Value)(T:Nat)(s:ByteArray)(k:Nat)(bad:Bool)(c:UInt8)(w:World)(hs:s.size<=1048576)(hr:Rd w b X T s k bad):J1 79 #[Jx b 0,.int .u8 c.toNat] w fun e w'=>e=.returned (.tuple #[])∧Rd w' b X T s (dL s c k bad).1 (dL s c k bad).2∧w.grownBy w' (some b):=by
 have c1:=hr.c1;have f1:=hr.f1;have c2:=hr.c2;have f2:=hr.f2;have mD:=rJ b X T s k bad c w hs hr;have HR:=qH hr
 cases hS:dB s c k bad with
 | true=>
  have hk:=qK hS;have HM:Hd (dL s c k bad=(k+1,bad)):=qH <| by
   unfold dL;rw[hS,aP rfl]
  rw[hS]at mD;go_enter func79,ntmps79;go_wp2_with fail;refine mD.mono ?_;rintro e w1 ⟨rfl,n,rfl⟩;go_wp2;go_end0;rw[HM.o];exact⟨rfl,(HR.o.drewN _).set1 (k+1),aJ (grown_drewN _ _ _) (bD _ _ _ _)⟩
 | false=>
  have HM:Hd (dL s c k bad=(k,true)):=qH <| by
   unfold dL;rw[hS,aU (by simp)]
  rw[hS]at mD;go_enter func79,ntmps79;go_wp2_with fail;refine mD.mono ?_;rintro e w1 ⟨rfl,n,rfl⟩;go_wp2
  go_returns
  rw[HM.o];exact⟨rfl,(HR.o.drewN _).set2,aJ (grown_drewN _ _ _) (bD _ _ _ _)⟩
theorem Fe(b:Nat)(X:List Value)(T:Nat)(s:ByteArray)(k:Nat)(bad:Bool)(c:UInt8)(w:World)(hs:s.size<=1048576)(hr:Rd w b X T s k bad):J1 81 #[Jx b 0,.int .u8 c.toNat] w fun e w'=>e=.returned (.bool (dB s c k bad))∧Rd w' b X T s (if dB s c k bad=true then k+1 else k) bad∧w.grownBy w' (some b):=by
 have c1:=hr.c1;have f1:=hr.f1;have mD:=rJ b X T s k bad c w hs hr;have HR:=qH hr
 cases hS:dB s c k bad with
 | true=>
  have hk:=qK hS;rw[hS]at mD;go_enter func81,ntmps81;go_wp2_with fail;refine mD.mono ?_;rintro e w1 ⟨rfl,n,rfl⟩;go_wp2;go_ret;exact⟨rfl,(HR.o.drewN _).set1 (k+1),aJ (grown_drewN _ _ _) (bD _ _ _ _)⟩
 | false=>
  rw[hS]at mD;go_enter func81,ntmps81;go_wp2_with fail;refine mD.mono ?_;rintro e w1 ⟨rfl,n,rfl⟩;go_wp2;go_ret;exact⟨rfl,HR.o.drewN _,grown_drewN _ _ _⟩
theorem vU(b:Nat)(X:List Value)(T:Nat)(s:ByteArray)(k:Nat)(bad:Bool)(w:World)(hr:Rd w b X T s k bad):J1 116 #[Jx b 0] w fun e w'=>e=.returned (.tuple #[])∧Rd w' b X T s k true∧w.grownBy w' (some b):=by
 have c2:=hr.c2;have f2:=hr.f2;have HR:=qH hr;go_enter func116,ntmps116;go_wp2;go_end0;exact⟨rfl,HR.o.set2,bD _ _ _ _⟩
theorem BA(b:Nat)(X:List Value)(T:Nat)(s:ByteArray)(k:Nat)(bad:Bool)(w:World)(hr:Rd w b X T s k bad):J1 70 #[Jx b 0] w fun e w'=>e=.returned (.bool bad)∧w'=w:=by
 have c2:=hr.c2;go_enter func70,ntmps70;go_wp2;go_ret;exact⟨rfl,rfl⟩
theorem Ff(b:Nat)(X:List Value)(T:Nat)(s:ByteArray)(k:Nat)(bad:Bool)(w:World)(hs:s.size<=1048576)(hk:k<=s.size)(hr:Rd w b X T s k bad):J1 68 #[Jx b 0] w fun e w'=>e=.returned (I ((s.size:Int)-(k:Int)))∧∃n,w'=w.drewN n:=by
 have c0:=hr.c0;have c1:=hr.c1;go_enter func68,ntmps68;go_wp2;go_quiet (fail);go_wp2;go_ret;exact⟨rfl,_,rfl⟩
def NJ(w:World)(b:Nat):Nat:=(intOf ((w.cell? (J b 1)).getD (I 0))).toNat
theorem Rd.NJ{w b X T s k bad}(h:Rd w b X T s k bad):NJ w b=k:=by unfold YtoebidlghdidoaaGreatDoor.NJ;rw[h.c1];simp[intOf]
theorem Dk{w w' b X T s k k' bad bad'}(h:Rd w b X T s k bad)(h':Rd w' b X T s k' bad')(h1:k<k')(h2:k<s.size):s.size-NJ w' b<s.size-NJ w b:=by rw[h.NJ,h'.NJ];omega
attribute [local go_sem ↓] Go.wp_at_zero Go.wp_at_succ
theorem aIV:(prog.info? 5).map (fun i=>(i.zero,i.size,i.bytes))=some (some (.int .u8 0),1,1):=by kernel_rfl
theorem Rd.grown{w w' b X T s k bad}(h:Rd w b X T s k bad)(hg:w.grownBy w' row)(hne:some b≠row):Rd w' b X T s k bad:=(hg.block b h.lt hne).trans h
theorem Rd.alloc{w b X T s k bad}(h:Rd w b X T s k bad)(o:Obj):Rd (w.alloc o) b X T s k bad:=h.grown (World.grownBy_alloc w o none) (by simp)
theorem bg{row':Option Nat}(h1:w.grownBy w1 row)(h2:w1.grownBy w2 row')(hn:∀g,row'=some g->w.heap.size<=g):w.grownBy w2 row:=⟨h2.os.trans h1.os,h2.tape.trans h1.tape,h2.output.trans h1.output,Nat.le_trans h1.size h2.size,fun k hk hne=>(h2.block k (Nat.lt_of_lt_of_le hk h1.size) (fun e=>by have:=hn k e.symm;omega)).trans (h1.block k hk hne)⟩
section
variable {b:Nat} {X:List Value} {T:Nat} {s:ByteArray} {k p:Nat} {bad:Bool} {t:List UInt8} {w wr:World} {n:Nat}
abbrev mQ(b:Nat)(X:List Value)(T:Nat)(s:ByteArray)(k:Nat)(bad:Bool)(t:List UInt8)(w:World)(e:Ending)(w':World):Prop:=e=.returned (.string ⟨t.toArray⟩)∧Rd w' b X T s (k+t.length) bad∧w.grownBy w' (some b)
theorem nY(hp:p=k+t.length)(hr:Rd wr b X T s p bad)(hg:w.grownBy wr (some b)):mQ b X T s k bad t w (.returned (.string ⟨t.toArray⟩)) (wr.drewN n):=by
 refine⟨rfl,?_,aJ hg (grown_drewN _ _ _)⟩;rw[<-hp];exact hr.drewN n
end
theorem aIW(D:Int)(P:UInt8->Bool)(hhas:∀(c:UInt8) (w:World),J1 112 #[I D,.int .u8 c.toNat] w fun e w'=>e=.returned (.bool (P c))∧w'=w)(b:Nat)(X:List Value)(T:Nat)(s:ByteArray)(k:Nat)(bad:Bool)(w:World)(hs:s.size<=1048576)(hks:k<=s.size)(hr:Rd w b X T s k bad):J1 78 #[Jx b 0,I D] w fun e w'=>mQ b X T s k bad (run P s.data.toList k) w e w':=by
 obtain⟨i0,af,hz0,hz1,hz2⟩:=info_parts aIV;obtain⟨t,ht⟩:=eX (run P s.data.toList k);rw[<-ht];have hle:k+t.length<=s.size:=by have:=tY P s.data.toList k (by simpa using hks);rw[<-ht]at this;simpa using this
 have hin:∀j,j<=t.length->(j<t.length↔∃c,s.data.toList[k+j]?=some c∧P c=true):=fun j hj=>by rw[ht]at hj ⊢;exact LH _ _ _ _ hj
 have htk:∀j c,j<t.length->s.data.toList[k+j]?=some c->t.take (j+1)=t.take j++[c]:=fun j c hj hc=>by rw[ht]at hj ⊢;exact F8 _ _ _ _ _ hj hc
 have HR:=qH hr;have Hin:=qH hin;have Htk:=qH htk;have HH:=qH hhas;have hblt:=hr.lt;clear ht hr hin htk hhas;go_enter func78,ntmps78;go_wp2
 go_loopw [5] (fun v wr=>∃j:Nat,j<=t.length∧wr.ownsRow w.heap.size 5 1 v j (Lib.byteCells (t.take j))∧Rd wr b X T s (k+j) bad∧w.grownBy wr (some b)) (fun _ wr=>s.size-NJ wr b)
 case atStart=>exact⟨0,Nat.zero_le _,by simpa [Lib.byteCells] using World.ownsRow_nil _ _ _ _,HR.o,World.grownBy.refl _ _⟩
 case round=>
  obtain⟨j,hj,hown,Oa,hgj⟩:=hrel;obtain⟨p,hp⟩:=eX (k+j);rw[<-hp]at Oa;have c0:=Oa.c0;have c1:=Oa.c1;have c2:=Oa.c2;have f1:=Oa.f1;have f2:=Oa.f2;have HR2:=qH Oa;have HG2:=qH hgj;have HP:=qH hp;have hps:p<=s.size:=by omega
  have hsz:=hgj.size;have hvb:=fun g h=>(hown.lt g h).1
  have Zj:∀v:Value,(∀g,v.ownBlock=some g->w.heap.size<=g)->some b≠v.ownBlock:=fun v h e=>by have:=h b e.symm;omega
  clear Oa hgj HR hp;by_cases hlt:p<s.size
  ·have Hg:=qH (Lib.data_getElem? s p hlt);have hi:(p:Int)<s.size:=by omega
   have hi0:(0:Int)<=(p:Int):=by omega
   have hd:=decide_eq_true hlt;by_cases hdg:P s[p]=true
   ·have hjt:=(Hin.o j hj).2 ⟨s[p],by rw[<-HP.o];exact Hg.o,hdg⟩;go_wp2;go_quiet ((go_at_call 112;exact Calls.quiet_of_same (HH.o _ _)));go_wp2_with fail;have hown':(wr.drewN nq).ownsRow w.heap.size 5 1 u5 j (Lib.byteCells (t.take j)):=hown;have hbne:=Zj u5 hvb
    go_region_held3 (fun w'=>w'.cell? (J b 0)=some (.string s)∧w'.cell? (J b 1)=some (I p))
     (first
      | go_keep
      | (go_split_ands;refine⟨?_,?_⟩ <;> (rw[hgrow.cell_far _ (by simp;omega) hbne];assumption)))
     ((refine step_append_lies _ (by rfl) _ _ _ (by rfl) w.heap.size 5 i0 _ 1 1 underlying100 af hz0 hz1 hz2 rfl (by omega) u5 j (Lib.byteCells (t.take j)) (by rfl) ((hown'.alloc _).drew) (J wr.heap.size 0) 1 1 [.int .u8 (s[p].toNat:Int)] (by rfl) (by rfl) (World.news_of_block (cs:=#[.int .u8 (s[p].toNat:Int)]) (t:=5) (fr:=(0,0)) (heap_alloc_new (wr.drewN nq) _)) (by simp[Value.oneCell']) (by omega) (by unfold maxLen;omega) (by omega) (by simp;omega) (wr.heap.size+1) (by simp) ?_;intro gg cap w1 hown1 hgrow hat fJ))
    have hr1:=Rd.grown ((HR2.o.drewN (nq+1)).alloc _) hgrow hbne;have hg1:=bg (aJ (aJ HG2.o (grown_drewN _ (nq+1) _)) (World.grownBy_alloc _ _ _)) hgrow hvb;have d0:=hr1.c0;have d1:=hr1.c1;have e1:=hr1.f1;have HR3:=qH hr1;have HG3:=qH hg1;have YX:Hd (w1.ownsRow w.heap.size 5 1 (Jn gg (j+1) cap) (j+1) (Lib.byteCells (t.take (j+1)))):=by
     rw[Htk.o j s[p] hjt (by rw[<-HP.o];exact Hg.o)];show World.ownsRow _ _ _ _ _ _ _;simpa [Lib.byteCells] using hown1
    go_wp2
    go_roundw
    case rel=>
     refine⟨j+1,by omega,ownsRow_setCell_below YX.o (by simpa using hblt) _,?_,?_⟩
     ·have e:k+(j+1)=p+1:=by have:=HP.o;omega
      rw[e];exact HR3.o.set1 (p+1)
     ·exact aJ HG3.o (bD _ _ _ _)
    case measure=>exact Dk HR2.o (HR3.o.set1 (p+1)) (by omega) hlt
   ·have hdf:P s[p]=false:=by simpa using hdg
    have hjt:¬j<t.length:=fun h=>by
     obtain⟨c,h1,h2⟩:=(Hin.o j hj).1 h;rw[<-HP.o,Hg.o]at h1;cases h1;exact hdg h2
    obtain rfl:j=t.length:=by omega
    go_wp2;go_quiet ((go_at_call 112;exact Calls.quiet_of_same (HH.o _ _)));rw[take_length]at hown;rcases hown.2 with ⟨rfl,h0⟩ | ⟨g,cap,cur,rfl,-,-,-,-,-,-⟩
    ·have hcv:∀wx,(convert 100 9 (.slice none 0 0)).run prog wx=.ok (.string ⟨#[]⟩) wx:=fun wx=>by rw[run_convert_bytes_string wx 100 9 5 none 0 0 underlying100 underlying5 underlying9];rfl
     obtain rfl:t=[]:=eq_nil_of_length_eq_zero h0;go_wp2;go_ret;exact nY HP.o HR2.o HG2.o
    ·have hcv1:=run_convert_bytes_back (P:=prog) (wr.drewN nq) 100 9 5 (J g 0) cap t underlying100 underlying5 underlying9 (fun j hj=>hown.cells (g:=g) rfl j _ (by simp[Lib.byteCells,hj]));go_wp2;go_ret;exact nY HP.o HR2.o HG2.o
  ·obtain rfl:j=t.length:=by have:=HP.o;omega
   have hd:=lT hlt;go_wp2;go_quiet ((go_at_call 112;exact Calls.quiet_of_same (HH.o _ _)));rw[take_length]at hown;rcases hown.2 with ⟨rfl,h0⟩ | ⟨g,cap,cur,rfl,-,-,-,-,-,-⟩
   ·have hcv:∀wx,(convert 100 9 (.slice none 0 0)).run prog wx=.ok (.string ⟨#[]⟩) wx:=fun wx=>by rw[run_convert_bytes_string wx 100 9 5 none 0 0 underlying100 underlying5 underlying9];rfl
    obtain rfl:t=[]:=eq_nil_of_length_eq_zero h0;go_wp2;go_ret;exact nY HP.o HR2.o HG2.o
   ·have hcv1:=run_convert_bytes_back (P:=prog) (wr.drewN nq) 100 9 5 (J g 0) cap t underlying100 underlying5 underlying9 (fun j hj=>hown.cells (g:=g) rfl j _ (by simp[Lib.byteCells,hj]));go_wp2;go_ret;exact nY HP.o HR2.o HG2.o
theorem aBZ(b:Nat)(X:List Value)(T:Nat)(s:ByteArray)(k:Nat)(bad:Bool)(w:World)(hs:s.size<=1048576)(hk:k<=s.size)(hr:Rd w b X T s k bad):J1 78 #[Jx b 0,I 0] w fun e w'=>mQ b X T s k bad (run lG s.data.toList k) w e w':=aIW 0 lG (Ky false) b X T s k bad w hs hk hr
theorem Fg(b:Nat)(X:List Value)(T:Nat)(s:ByteArray)(k:Nat)(bad:Bool)(w:World)(hs:s.size<=1048576)(hk:k<=s.size)(hr:Rd w b X T s k bad):J1 78 #[Jx b 0,I 1] w fun e w'=>mQ b X T s k bad (run aI.isS s.data.toList k) w e w':=aIW 1 aI.isS (Ky true) b X T s k bad w hs hk hr
theorem new_any(s:ByteArray)(w:World):J1 67 #[.string s] w fun e w'=>e=.returned (.agg #[.string s,I 0,.bool false])∧Mod No w w':=by
 go_enter func67,ntmps67;go_wp2;refine bodyPost_ret (v:=.agg #[.string s,I 0,.bool false]) (by simp[results,results67,go_sem]) rfl ⟨rfl,?_⟩;exact(Mod.refl _ _).alloc _
end
section
open Go.RowKit
attribute [local go_sem ↓] Go.wp_at_zero Go.wp_at_succ
variable {ps L:List aI.Place} {i:Nat} {α:Type} {w w':World} {v:Value} {os:List xY}
def yY:Enc aI.Place:=⟨269,5,fun q=>[.bool (q.t.getD 0 false),.bool (q.t.getD 1 false),.bool (q.t.getD 2 false),.bool (q.t.getD 3 false),.int .u32 q.n],fun _=>rfl⟩
def gZ(x:aI.Piece):Value:=.agg #[.bool x.e,.int .u32 x.f,.int .u32 x.l]
def xg(x:aI.Piece):Prop:=x.f<I5∧x.l<I5
def Ob(ps:List aI.Place):Prop:=ps.length<=32∧∀q∈ps,q.n<I5
theorem Fh(fr tq9:Nat):∀(ps:List aI.Place) (k i:Nat),(iP ps fr tq9 k)[i]?=(ps[i]?).map fun q=>if aI.has fr (k+i) then { q with n:=q.n ||| tq9 } else q
 | [],_,_=>by simp[iP]
 | p::ps,k,0=>by simp[iP]
 | p::ps,k,i+1=>by
  simp only[iP,getElem?_cons_succ];rw[Fh fr tq9 ps (k+1) i,show k+1+i=k+(i+1) by omega]
theorem og(fr tq9:Nat):∀(ps:List aI.Place) (k:Nat),(iP ps fr tq9 k).length=ps.length
 | [],_=>rfl
 | p::ps,k=>by simp[iP,og fr tq9 ps (k+1)]
theorem yu{fr tq9:Nat}(h:Ob ps)(ht:tq9<I5):Ob (iP ps fr tq9 0):=by
 refine⟨by rw[og];exact h.1,fun q hq=>?_⟩;obtain⟨i,hi⟩:=mem_iff_getElem?.1 hq;rw[Fh]at hi
 cases hp:ps[i]? with
 | none=>rw[hp]at hi;cases hi
 | some p=>
  rw[hp]at hi;simp only[Option.map_some,Option.some.injEq]at hi;have hpo:=h.2 p (iI hp);subst hi;split
  ·exact wY hpo ht
  ·exact hpo
def mix(L ps:List aI.Place)(i:Nat):List aI.Place:=L.take i++ps.drop i
theorem Vd(hl:L.length=ps.length)(hi:i<ps.length):(mix L ps i)[i]?=ps[i]?:=by
 unfold mix;rw[mW (by simp;omega),length_take,getElem?_drop];congr 1;omega
theorem Ve(hl:L.length=ps.length)(i:Nat)(hi:i<=ps.length):(mix L ps i).length=ps.length:=by unfold mix;simp;omega
theorem Vf(hl:L.length=ps.length)(hi:i<ps.length){x:aI.Place}(hx:L[i]?=some x):(mix L ps i).set i x=mix L ps (i+1):=by
 unfold mix;have e:i-(L.take i).length=0:=by simp;omega
 rw[set_append_right _ _ (by simp;omega),take_add_one,hx,e,kJ hi,set_cons_zero];simp
theorem Zk(hl:L.length=ps.length)(hi:i<ps.length)(hx:L[i]?=ps[i]?):mix L ps i=mix L ps (i+1):=by
 obtain⟨x,h⟩:∃x,L[i]?=some x:=⟨L[i],bG (by omega)⟩;rw[<-Vf hl hi h];refine(ext_getElem? fun j=>?_);rw[getElem?_set];split
 ·rename_i e;subst e;rw[Vd hl hi,<-hx,h];split
  ·rfl
  ·rename_i h2;exact absurd (by rw[Ve hl i (by omega)];exact hi) h2
 ·rfl
def Pt(b:Nat)(v:Value):Nat->Prop:=fun k=>k=b∨v.ownBlock=some k
theorem lead_any(b o:Nat)(cs:List Value)(T:Nat)(vp:Value)(ps:List aI.Place)(fr tq9:Nat)(w:World)(hb:aG w b cs T)(hv:cs[o]?=some vp)(hrow:Row yY w vp ps)(hne:vp.ownBlock≠some b)(hps:Ob ps)(hfr:fr<I5)(hto:tq9<I5):J1 118 #[Jx b o,.int .u32 fr,.int .u32 tq9] w fun e w'=>e=.returned (.tuple #[])∧Row yY w' vp (iP ps fr tq9 0)∧Mod (fun k=>vp.ownBlock=some k) w w':=by
 obtain⟨a,cap,rfl,ha,hcap,-⟩:=hrow.any;have hl:=og fr tq9 ps 0;have hget:=Fh fr tq9 ps 0;obtain⟨L,hL⟩:=eX (iP ps fr tq9 0);rw[<-hL]at hl hget ⊢;obtain⟨n,hn⟩:=eX ps.length;have hn32:n<=32:=by rw[hn];exact hps.1
 rw[<-hn]at hrow hcap hne hv ⊢;have hhas:=fun p (hp:p<32) w=>Au fr p hfr hp w
 have aF8:Hd _:=hhas;have HL:=qH hl;have Fj:Hd _:=hget;have HN:=qH hn;have HPS:Hd _:=hps;have Oc:Hd _:=hrow;have HB:=qH hb;have HV:Hd _:=hv;have c0:=hb.cell o hv;have YZ:Hd _:=hne;go_enter func118,ntmps118;go_wp2
 go_loopw [12] (fun ii wr=>∃(i:Nat),i<=n∧ii=I i∧Row yY wr (.slice a n cap) (mix L ps i)∧Mod (fun k=>(Value.slice a n cap).ownBlock=some k) w wr) (fun ii _=>n-(intOf ii).toNat)
 case atStart=>exact⟨0,by omega,rfl,by have:=Oc.o;unfold mix;rw[take_zero,drop_zero,nil_append];exact this,Mod.refl _ _⟩
 case round=>
  obtain⟨i,hi,rfl,hr,hm⟩:=hrel;have hbk:=HB.o.mod hm (fun h=>YZ.o h);have c0:=hbk.cell o HV.o;by_cases hlt:i<n
  ·have hlt2:i<ps.length:=by rw[<-HN.o];exact hlt
   obtain⟨g,rfl⟩:∃g,a=some (J g 0):=by
    rcases ha with rfl | ⟨g,rfl,_⟩
    ·rcases hr.2 with ⟨h,h2⟩ | ⟨g,cap',cur,h,_⟩
     ·exfalso;rw[Ve HL.o i (by omega)]at h2;omega
     ·cases h
    ·exact⟨g,rfl⟩
   obtain⟨q,hq⟩:∃q,ps[i]?=some q:=⟨ps[i],bG hlt2⟩;have hmq:(mix L ps i)[i]?=some q:=by rw[Vd HL.o hlt2];exact hq
   have c4:wr.cell? (J g (i*5+4))=some (.int .u32 q.n):=hr.cell i 4 hmq rfl;have f4:wr.frozen? (J g (i*5+4))=false:=hr.free _;have hqn:=HPS.o.2 q (iI hq);have hh:=aF8.o i (by omega);have hLi:=Fj.o i;rw[hq,Option.map_some,Nat.zero_add]at hLi;have hne2:¬g=b:=fun e=>YZ.o (by rw[e];rfl)
   have hilt:(i:Int)<n:=by omega
   cases hhv:aI.has fr i with
   | true=>
    rw[hhv]at hh;rw[hhv,aP rfl]at hLi;have hor:=u32_or_nat q.n tq9 hqn hto;obtain⟨x,hx⟩:=eX (q.n ||| tq9);rw[<-hx]at hor hLi;have HR2:Hd (Row yY (wr.setCell (J g (i*5+4)) (.int .u32 x)) (Jn g n cap) (mix L ps (i+1))):=by
     show Row yY _ _ _;rw[<-Vf HL.o hlt2 hLi];exact hr.put i 4 hmq (by decide) rfl
    have HM:Hd _:=hm;clear hx hLi hhv hmq hq hr hm;go_wp2_with fail;refine(hh _).mono ?_;rintro e w1 ⟨rfl,rfl⟩;go_wp2
    go_roundw
    case rel=>exact⟨i+1,by omega,by go_num,HR2.o,HM.o.setCell (a:=(J g (i*5+4))) (fun _=>rfl) _⟩
    case measure=>simp[intOf];omega
   | false=>
    rw[hhv]at hh;rw[hhv,aU (by simp)]at hLi;have HR2:Hd (Row yY wr (Jn g n cap) (mix L ps (i+1))):=by
     show Row yY _ _ _;rw[<-Zk HL.o hlt2 (by rw[hLi,hq])];exact hr
    have HM:Hd _:=hm;go_wp2_with fail;refine(hh _).mono ?_;rintro e w1 ⟨rfl,rfl⟩;go_wp2
    go_roundw
    case rel=>exact⟨i+1,by omega,by go_num,HR2.o,HM.o⟩
    case measure=>simp[intOf];omega
  ·obtain rfl:i=n:=by omega
   have HR2:Hd (Row yY wr (.slice a i cap) L):=by
    have e:mix L ps i=L:=by
     unfold mix;rw[take_of_length_le (by rw[HL.o,<-HN.o];omega),drop_of_length_le (by rw[<-HN.o];omega),append_nil]
    rw[e]at hr;exact hr
   go_wp2;go_end0;exact⟨rfl,HR2.o,hm⟩
theorem Row.Zl{E:Enc α}{xs:List α}(h:Row E w v xs)(k:Nat)(hk:w.heap.size<=k):¬v.ownBlock=some k:=fun e=>by have:=h.lt e;omega
theorem vV(w:World)(A B C:Obj):(((w.alloc A).alloc B).alloc C).heap[w.heap.size]?=some A:=by
 rw[Below.heap_alloc _ _ _ (by simp;omega),Below.heap_alloc _ _ _ (by simp)];exact heap_alloc_new w A
theorem tu(w:World)(A B C:Obj):(((w.alloc A).alloc B).alloc C).heap[w.heap.size+1]?=some B:=by
 rw[Below.heap_alloc _ _ _ (by simp)];simpa using heap_alloc_new (w.alloc A) B
theorem uD(w:World)(A B C:Obj):(((w.alloc A).alloc B).alloc C).heap[w.heap.size+1+1]?=some C:=by
 simpa using heap_alloc_new ((w.alloc A).alloc B) C
theorem gq(w:World)(A B:Obj):((w.alloc A).alloc B).heap[w.heap.size]?=some A:=by
 rw[Below.heap_alloc _ _ _ (by simp)];exact heap_alloc_new w A
theorem fE(w:World)(A B:Obj):((w.alloc A).alloc B).heap[w.heap.size+1]?=some B:=by simpa using heap_alloc_new (w.alloc A) B
theorem Ry(x y:aI.Piece)(w:World)(hx:xg x)(hy:xg y):J1 141 #[gZ x,gZ y] w fun e w'=>e=.returned (gZ (mJ x y))∧Mod No w w':=by
 obtain⟨xe,xf,xl⟩:=x;obtain⟨ye,yf,yl⟩:=y;have h1:=u32_or_nat xf yf hx.1 hy.1;have h2:=u32_or_nat xl yl hx.2 hy.2;obtain⟨a,ha⟩:=eX (xf ||| yf);obtain⟨c,hc⟩:=eX (xl ||| yl);have HE:Hd (gZ (mJ ⟨xe,xf,xl⟩ ⟨ye,yf,yl⟩)=.agg #[.bool (xe||ye),.int .u32 a,.int .u32 c]):=by
  show gZ _=_;rw[ha,hc];rfl
 rw[<-ha]at h1;rw[<-hc]at h2;clear ha hc;unfold gZ at *
 cases xe with
 | true=>
  go_enter func141,ntmps141;go_wp2;refine bodyPost_ret (v:=.agg #[.bool true,.int .u32 a,.int .u32 c]) (by simp[results,results141,go_sem]) rfl ⟨by rw[HE.o];rfl,?_⟩;exact(((Mod.refl _ _).alloc _).alloc _).alloc _
 | false=>
  go_enter func141,ntmps141;go_wp2;refine bodyPost_ret (v:=.agg #[.bool ye,.int .u32 a,.int .u32 c]) (by simp[results,results141,go_sem]) rfl ⟨by rw[HE.o];rfl,?_⟩;exact(((Mod.refl _ _).alloc _).alloc _).alloc _
theorem aF9{E:Enc α}{S:Nat->Prop}{w1:World}{vp:Value}{L:List α}(o:Obj)(R:Nat)(A0 A1 A2:Value)(hm:Mod S w w1)(hr:Row E w1 vp L)(hR:w.heap.size<=R)(hne:vp.ownBlock≠some R):Row E ((((w1.alloc o).setCell (J R 0) A0).setCell (J R 1) A1).setCell (J R 2) A2) vp L∧Mod S w ((((w1.alloc o).setCell (J R 0) A0).setCell (J R 1) A1).setCell (J R 2) A2):=⟨(((hr.alloc o).other (a:=J R 0) hne _).other (a:=J R 1) hne _).other (a:=J R 2) hne _,(((hm.alloc o).setCell (a:=J R 0) (fun h=>absurd h (by simp;omega)) _).setCell (a:=J R 1) (fun h=>absurd h (by simp;omega)) _).setCell (a:=J R 2) (fun h=>absurd h (by simp;omega)) _⟩
theorem Zm(b o:Nat)(cs:List Value)(T:Nat)(vp:Value)(ps:List aI.Place)(x y:aI.Piece)(w:World)(hb:aG w b cs T)(hv:cs[o]?=some vp)(hrow:Row yY w vp ps)(hne:vp.ownBlock≠some b)(hps:Ob ps)(hx:xg x)(hy:xg y):J1 83 #[Jx b o,gZ x,gZ y] w fun e w'=>e=.returned (gZ (bC ps x y).1)∧Row yY w' vp (bC ps x y).2∧Mod (fun k=>vp.ownBlock=some k) w w':=by
 obtain⟨xe,xf,xl⟩:=x;obtain⟨ye,yf,yl⟩:=y;have h1:=u32_or_nat xf yf hx.1 hy.1;have h2:=u32_or_nat yl xl hy.2 hx.2;have HJ:Hd (∀A B C,J1 118 #[Jx b o,.int .u32 xl,.int .u32 yf] (((w.alloc A).alloc B).alloc C) fun e w'=>e=.returned (.tuple #[])∧Row yY w' vp (iP ps xl yf 0)∧Mod (fun k=>vp.ownBlock=some k) (((w.alloc A).alloc B).alloc C) w'):=fun A B C=>lead_any b o cs T vp ps xl yf _ (((hb.alloc _).alloc _).alloc _) hv (((hrow.alloc _).alloc _).alloc _) hne hps hx.2 hy.1
 have HN:=qH hrow.Zl;obtain⟨a,ha⟩:=eX (xf ||| yf);obtain⟨c,hc⟩:=eX (yl ||| xl);have HE:Hd ((bC ps ⟨xe,xf,xl⟩ ⟨ye,yf,yl⟩).1=⟨xe&&ye,if xe then a else xf,if ye then c else yl⟩):=by
  show (bC ps ⟨xe,xf,xl⟩ ⟨ye,yf,yl⟩).1=_;rw[ha,hc];rfl
 have HE2:Hd ((bC ps ⟨xe,xf,xl⟩ ⟨ye,yf,yl⟩).2=iP ps xl yf 0):=rfl;rw[<-ha]at h1;rw[<-hc]at h2;clear ha hc hb hv hrow hne hps hx hy;rw[HE.o,HE2.o];generalize hL:iP ps xl yf 0=L at HJ ⊢;unfold gZ;go_enter func83,ntmps83;go_wp2_with fail;refine(HJ.o _ _ _).mono ?_;rintro e w1 ⟨rfl,hr1,hm1⟩;have b0:=aG.mod (vV _ _ _ _) hm1 (HN.o _ (by omega));have b1:=aG.mod (tu _ _ _ _) hm1 (HN.o _ (by omega));have b2:=aG.mod (uD _ _ _ _) hm1 (HN.o _ (by omega));have hm:=(((Mod.refl _ _).alloc _).alloc _).alloc _ |>.trans hm1;have HR1:Hd _:=hr1;have HM:Hd _:=hm;have HB2:Hd _:=b2;have hs1:=hm1.size;simp at hs1;have x0:=b0.cell 0 rfl;have x1:=b0.cell 1 rfl;have y0:=b1.cell 0 rfl;have y2:=b1.cell 2 rfl;have X0:=b0.aS 0 rfl;have X2:=b0.aS 2 rfl;have Y0:=b1.aS 0 rfl;have Y1:=b1.aS 1 rfl;have Z0:=b2.aS 0 rfl;have Z1:=b2.aS 1 rfl;have Z2:=b2.aS 2 rfl;have G0:=b2.dQ 0;have G1:=b2.dQ 1;have G2:=b2.dQ 2;have n0:¬w.heap.size=w1.heap.size:=by omega
 have n1:¬w.heap.size+1=w1.heap.size:=by omega
 have n2:¬w.heap.size+1+1=w1.heap.size:=by omega
 have HF:Hd (∀o A0 A1 A2,Row yY ((((w1.alloc o).setCell ⟨w.heap.size+1+1,0,none⟩ A0).setCell ⟨w.heap.size+1+1,1,none⟩ A1).setCell ⟨w.heap.size+1+1,2,none⟩ A2) vp L∧Mod (fun k=>vp.ownBlock=some k) w ((((w1.alloc o).setCell ⟨w.heap.size+1+1,0,none⟩ A0).setCell ⟨w.heap.size+1+1,1,none⟩ A1).setCell ⟨w.heap.size+1+1,2,none⟩ A2)):=fun o A0 A1 A2=>aF9 o _ A0 A1 A2 HM.o HR1.o (by omega) (HN.o _ (by omega))
 cases xe with
 | true=>
  cases ye with
  | true=>
   go_wp2;exact bodyPost_ret (v:=.agg #[.bool true,.int .u32 a,.int .u32 c]) (by simp[results,results83,go_sem,Z0,Z1,Z2]) rfl ⟨rfl,HF.o _ _ _ _⟩
  | false=>
   go_wp2;exact bodyPost_ret (v:=.agg #[.bool false,.int .u32 a,.int .u32 yl]) (by simp[results,results83,go_sem,Z0,Z1,Z2]) rfl ⟨rfl,HF.o _ _ _ _⟩
 | false=>
  cases ye with
  | true=>
   go_wp2;exact bodyPost_ret (v:=.agg #[.bool false,.int .u32 xf,.int .u32 c]) (by simp[results,results83,go_sem,Z0,Z1,Z2]) rfl ⟨rfl,HF.o _ _ _ _⟩
  | false=>
   go_wp2;exact bodyPost_ret (v:=.agg #[.bool false,.int .u32 xf,.int .u32 yl]) (by simp[results,results83,go_sem,Z0,Z1,Z2]) rfl ⟨rfl,HF.o _ _ _ _⟩
theorem Rz(b o:Nat)(cs:List Value)(T:Nat)(vp:Value)(ps:List aI.Place)(x:aI.Piece)(w:World)(hb:aG w b cs T)(hv:cs[o]?=some vp)(hrow:Row yY w vp ps)(hne:vp.ownBlock≠some b)(hps:Ob ps)(hx:xg x):J1 156 #[Jx b o,gZ x] w fun e w'=>e=.returned (gZ (sJ ps x).1)∧Row yY w' vp (sJ ps x).2∧Mod (fun k=>vp.ownBlock=some k) w w':=by
 obtain⟨xe,xf,xl⟩:=x;have HJ:Hd (∀A B,J1 118 #[Jx b o,.int .u32 xl,.int .u32 xf] ((w.alloc A).alloc B) fun e w'=>e=.returned (.tuple #[])∧Row yY w' vp (iP ps xl xf 0)∧Mod (fun k=>vp.ownBlock=some k) ((w.alloc A).alloc B) w'):=fun A B=>lead_any b o cs T vp ps xl xf _ ((hb.alloc _).alloc _) hv ((hrow.alloc _).alloc _) hne hps hx.2 hx.1
 have HN:=qH hrow.Zl;have HE:Hd ((sJ ps ⟨xe,xf,xl⟩).1=⟨true,xf,xl⟩):=rfl;have HE2:Hd ((sJ ps ⟨xe,xf,xl⟩).2=iP ps xl xf 0):=rfl;rw[HE.o,HE2.o];generalize hL:iP ps xl xf 0=L at HJ ⊢;unfold gZ;go_enter func156,ntmps156;go_wp2_with fail;refine(HJ.o _ _).mono ?_;rintro e w1 ⟨rfl,hr1,hm1⟩;have b0:=aG.mod (gq _ _ _) hm1 (HN.o _ (by omega));have b1:=aG.mod (fE _ _ _) hm1 (HN.o _ (by omega));have hm:=((Mod.refl _ _).alloc _).alloc _ |>.trans hm1;have HR1:=qH hr1;have HM:=qH hm;have x0:=b0.cell 0 rfl;have x1:=b0.cell 1 rfl;have x2:=b0.cell 2 rfl;have z0:=b1.cell 0 rfl;have z1:=b1.cell 1 rfl;have z2:=b1.cell 2 rfl;have f0:=b0.free 0;have g0:=b1.free 0;have g1:=b1.free 1;have g2:=b1.free 2;go_wp2;refine bodyPost_ret (v:=.agg #[.bool true,.int .u32 xf,.int .u32 xl]) (by simp[results,results156,go_sem,z0,z1,z2]) rfl ⟨rfl,?_,?_⟩
 ·exact(((HR1.o.other (a:=J w.heap.size 0) (HN.o _ (by simp)) _).other (a:=⟨w.heap.size+1,0,none⟩) (HN.o _ (by simp)) _).other (a:=⟨w.heap.size+1,1,none⟩) (HN.o _ (by simp)) _).other (a:=⟨w.heap.size+1,2,none⟩) (HN.o _ (by simp)) _
 ·exact(((HM.o.setCell (a:=J w.heap.size 0) (fun h=>absurd h (by simp)) _).setCell (a:=⟨w.heap.size+1,0,none⟩) (fun h=>absurd h (by simp)) _).setCell (a:=⟨w.heap.size+1,1,none⟩) (fun h=>absurd h (by simp)) _).setCell (a:=⟨w.heap.size+1,2,none⟩) (fun h=>absurd h (by simp)) _
theorem aJL:(prog.info? 269).map (fun i=>(i.zero,i.size,i.bytes))=some (some (.agg #[.bool false,.bool false,.bool false,.bool false,.int .u32 0]),5,8):=by kernel_rfl
def aN(w:World)(v v':Value):Prop:=∀g,v'.ownBlock=some g->v.ownBlock=some g∨w.heap.size<=g
def Y4(t:List Bool):Value:=.agg #[.bool (t.getD 0 false),.bool (t.getD 1 false),.bool (t.getD 2 false),.bool (t.getD 3 false)]
theorem add_any(b o:Nat)(cs:List Value)(T:Nat)(vp:Value)(ps:List aI.Place)(t:List Bool)(w:World)(hb:aG w b cs T)(hv:cs[o]?=some vp)(hrow:Row yY w vp ps)(hne:vp.ownBlock≠some b)(hlen:ps.length<32):J1 114 #[Jx b o,Y4 t] w fun e w'=>e=.returned (gZ ⟨false,aI.bit ps.length,aI.bit ps.length⟩)∧∃Dl,Row yY w' Dl (ps++[⟨t,0⟩])∧aG w' b (cs.set o Dl) T∧Dl.ownBlock≠some b∧aN w vp Dl∧Mod (Pt b vp) w w':=by
 obtain⟨i0,af,hz0,hz1,hz2⟩:=info_parts aJL;obtain⟨a,cap,rfl,ha,hcap,-⟩:=hrow.any;obtain⟨n,hn⟩:=eX ps.length;rw[<-hn]at hrow hcap hne hv hlen ⊢;have hone:=fun w=>yK n hlen w
 have c0:=hb.cell o hv;have C0:=fun o1 o2=>(hb.alloc o1).aS o hv o2
 have f0:=hb.free o;have HB:=qH hb;have HV:=qH hv;have Oc:=qH hrow;have hlt:=hb.lt;have HN:=qH hn;have YZ:Hd _:=hne;have hsw:∀x:Option Addr,(Value.slice x n cap).ownBlock=x.map (·.block):=fun x=>by cases x <;> rfl
 have hbne:some b≠(Value.slice a n cap).ownBlock:=fun e=>YZ.o e.symm
 unfold Y4;generalize ht0:t.getD 0 false=t0;generalize ht1:t.getD 1 false=t1;generalize ht2:t.getD 2 false=t2;generalize ht3:t.getD 3 false=t3;have HT:Hd (yY.f ⟨t,0⟩=[.bool t0,.bool t1,.bool t2,.bool t3,.int .u32 0]):=by
  show yY.f ⟨t,0⟩=_;rw[<-ht0,<-ht1,<-ht2,<-ht3];rfl
 clear hb hv hrow hn hne ht0 ht1 ht2 ht3;go_enter func114,ntmps114;go_wp2_with fail;refine(hone _).mono ?_;rintro e w1 ⟨rfl,rfl⟩;generalize hX:aI.bit n=X;go_wp2_with fail;generalize JX:(w.alloc (.cells #[.bool t0,.bool t1,.bool t2,.bool t3] 239)).alloc (.cells #[.bool false,.int .u32 0,.int .u32 0] 130)=wa;have ba:aG wa b cs T:=by rw[<-JX];exact(HB.o.alloc _).alloc _
 have bt:aG wa w.heap.size [.bool t0,.bool t1,.bool t2,.bool t3] 239:=by rw[<-JX];exact gq w _ _
 have br:aG wa (w.heap.size+1) [.bool false,.int .u32 0,.int .u32 0] 130:=by rw[<-JX];exact fE w _ _
 have hra:Row yY wa (.slice a n cap) ps:=by rw[<-JX];exact(Oc.o.alloc _).alloc _
 have hsz:wa.heap.size=w.heap.size+2:=by rw[<-JX];simp
 have HMA:Hd (Mod (Pt b (.slice a n cap)) w wa):=by rw[<-JX];exact((Mod.refl _ _).alloc _).alloc _
 have HBA:=qH ba;have HBR:=qH br;have hown:wa.ownsRow 0 269 5 (.slice a n cap) n (ps.flatMap yY.f):=by rw[HN.o]at hra ⊢;exact hra
 have hneg:=fun g (hg:(Value.slice a n cap).ownBlock=some g)=>Oc.o.lt hg
 have aEY:some (w.heap.size+1)≠(Value.slice a n cap).ownBlock:=fun e=>by have:=hneg _ e.symm;omega
 have aHr:some w.heap.size≠(Value.slice a n cap).ownBlock:=fun e=>by have:=hneg _ e.symm;omega
 have c0:=ba.cell o HV.o;have f0:=ba.free o;have F0:=ba.dQ o;have CA:=ba.aS o HV.o;have d0:=bt.cell 0 rfl;have d1:=bt.cell 1 rfl;have d2:=bt.cell 2 rfl;have d3:=bt.cell 3 rfl;have zf:=qH hsz;have aHs:b<wa.heap.size:=by omega
 have XC:∀o',b<(wa.alloc o').drew.heap.size:=fun o'=>by show b<(wa.alloc o').heap.size;simp;omega
 clear hsz
 go_region_law (refine step_append_lies _ (by rfl) _ _ _ (by rfl) 0 269 i0 _ 5 8 underlying126 af hz0 hz1 hz2 rfl (by omega) (.slice a n cap) n (ps.flatMap yY.f) (by rfl) ((hown.alloc _).drew) (J wa.heap.size 0) 1 1 [.bool t0,.bool t1,.bool t2,.bool t3,.int .u32 0] (by rfl) (by rfl) (World.news_of_block (cs:=#[.bool t0,.bool t1,.bool t2,.bool t3,.int .u32 0]) (t:=269) (fr:=(0,0)) (heap_alloc_new wa _)) (by intro u hu;simp at hu;rcases hu with rfl | rfl | rfl | rfl | rfl <;> rfl) (by omega) (by unfold maxLen;omega) (by omega) (by simp) (wa.heap.size+1) (by simp) ?_;intro gg cap2 w1 hown1 hgrow hat fJ;have e0:w1.cell? (J b o)=some (.slice a n cap):=(hgrow.cell_far (J b o) (XC _) hbne).trans (CA _);have e1:w1.frozen? (J b o)=false:=(hgrow.frozen_far (J b o) (XC _) hbne).trans (F0 _))
 all_goals
  have hv':(Jn gg (n+1) cap2).ownBlock=some gg:=rfl;have hgb:gg≠b:=by
   rcases hat with h | h
   ·exact fun e=>YZ.o (by rw[h,e])
   ·omega
  have hgR:gg≠w.heap.size+1:=by
   rcases hat with h | h
   ·have:=hneg gg h;omega
   ·have:=zf.o;omega
  have Qq:Hd (aN w (.slice a n cap) (Jn gg (n+1) cap2)):=by
   intro g hg;cases hg;rcases hat with h | h
   ·exact Or.inl h
   ·exact Or.inr (by show w.heap.size<=gg;have:=zf.o;omega)
  have HR:Hd (Row yY w1 (Jn gg (n+1) cap2) (ps++[⟨t,0⟩])):=by
   refine Row.snoc ?_;rw[HT.o,<-HN.o];exact hown1
  have hB1:=((HBA.o.alloc _).drew).grown hgrow hbne;have hR1:=((HBR.o.alloc _).drew).grown hgrow aEY;have HM:=qH (((HMA.o.alloc _).drew).grown hgrow (fun g hg _=>Or.inr hg));generalize hv2:Jn gg (n+1) cap2=v2 at *;have hbR:b≠w.heap.size+1:=by omega
  have HB2:=qH (hB1.set o v2);have hR2:=hR1.other (a:=J b o) (fun e=>hbR e.symm) v2;have z0:=hR2.cell 0 rfl;have z1:=hR2.cell 1 rfl;have z2:=hR2.cell 2 rfl;have g0:=hR2.free 0;have g1:=hR2.free 1;have g2:=hR2.free 2;go_wp2;refine bodyPost_ret (v:=.agg #[.bool false,.int .u32 X,.int .u32 X]) (by simp[results,results114,go_sem,z0,z1,z2]) rfl ⟨by rw[<-hX];rfl,v2,?_,?_,?_,Qq.o,?_⟩
  ·exact(((HR.o.other (a:=J b o) (by rw[hv'];simpa using hgb) _).other (a:=⟨w.heap.size+1,0,none⟩) (by rw[hv'];simpa using hgR) _).other (a:=⟨w.heap.size+1,1,none⟩) (by rw[hv'];simpa using hgR) _).other (a:=⟨w.heap.size+1,2,none⟩) (by rw[hv'];simpa using hgR) _
  ·exact((HB2.o.other (a:=⟨w.heap.size+1,0,none⟩) hbR _).other (a:=⟨w.heap.size+1,1,none⟩) hbR _).other (a:=⟨w.heap.size+1,2,none⟩) hbR _
  ·rw[hv'];simpa using hgb
  ·exact(((HM.o.setCell (a:=J b o) (fun _=>Or.inl rfl) _).setCell (a:=⟨w.heap.size+1,0,none⟩) (fun h=>absurd h (by simp)) _).setCell (a:=⟨w.heap.size+1,1,none⟩) (fun h=>absurd h (by simp)) _).setCell (a:=⟨w.heap.size+1,2,none⟩) (fun h=>absurd h (by simp)) _
def Zn:Enc (Th.LR × Value):=⟨76,6,fun p=>[.string (sb p.1.fr),.string (sb p.1.tt),p.2,.bool (fK p.1.c),.int .u8 p.1.c.loopA.toNat,.int .u8 p.1.c.qJ.toNat],fun _=>rfl⟩
structure nZ(w:World)(v:Value)(ps:List (Th.LR × Value)):Prop where
 row:Row Zn w v ps
 Y5:∀p∈ps,Row NH w p.2 p.1.c.words
theorem Row.blk{E:Enc α}{xs:List α}(h:Row E w v xs){b T:Nat}{cs:List Value}(hb:aG w b cs T)(ht:E.T≠T):v.ownBlock≠some b:=by
 rcases h.2 with ⟨rfl,-⟩ | ⟨g,cap,cur,rfl,hg,hh,r⟩
 ·simp[Value.ownBlock]
 ·intro e;have e':g=b:=by simpa [Value.ownBlock] using e
  subst e';rw[show w.heap[g]?=_ from hb]at hh;injection hh with hh;injection hh with h1 h2;exact ht h2.symm
theorem Row.far'{β:Type}{E:Enc α}{E':Enc β}{v':Value}{xs:List α}{ys:List β}(h:Row E w v xs)(h':Row E' w v' ys)(ht:E.T≠E'.T):v.ownBlock=none∨v.ownBlock≠v'.ownBlock:=by
 rcases h.2 with ⟨rfl,-⟩ | ⟨g,cap,cur,rfl,hg,hh,r⟩
 ·exact Or.inl rfl
 ·right;intro e;rcases h'.2 with ⟨rfl,-⟩ | ⟨g',cap',cur',rfl,hg',hh',r'⟩
  ·simp[Value.ownBlock]at e
  ·have e':g=g':=by simpa [Value.ownBlock] using e
   subst e';rw[hh]at hh';injection hh' with hh';injection hh' with h1 h2;exact ht h2
theorem nZ.mod{ps:List (Th.LR × Value)}(h:nZ w v ps)(hm:Mod No w w'):nZ w' v ps:=⟨h.row.no hm,fun p hp=>(h.Y5 p hp).no hm⟩
theorem aB0(l:List UInt8)(k:Nat):(sb l).extract 0 k=sb (l.take k):=by
 apply ByteArray.ext;simp[sb]
theorem aJk:(prog.info? 76).map (fun i=>(i.zero,i.size,i.bytes))=some (some (.agg #[.string ⟨#[]⟩,.string ⟨#[]⟩,.slice none 0 0,.bool false,.int .u8 0,.int .u8 0]),6,64):=by kernel_rfl
def goV(o:xY):Value:=.agg #[I o.form,I o.b,I o.c,.string (sb o.fr),.string (sb o.tt)]
structure aGa(o:xY):Prop where
 f1:-9223372036854775808<=o.form
 f2:o.form<=9223372036854775807
 b1:-9223372036854775808<=o.b
 b2:o.b<=9223372036854775807
 c1:-9223372036854775808<=o.c
 c2:o.c<=9223372036854775807
 fr:o.fr.length<=1048576
 tt:o.tt.length<=1048576
def Fp:Prop:=∀(w:World) (b:Nat) (vl:Value) (T:List UInt8) (nv wv:Value) (ps:List (Th.LR × Value)) (o:xY) (_:aGa o) (_:aG w b [vl,.string (sb T),nv,wv] 31) (_:nZ w vl ps) (_:ps.length<=4) (_:T.length<=1000),J1 10 #[Jx b 0,goV o] w fun e w'=>e=.returned (.tuple #[])∧∃vl' vw,aG w' b [vl',.string (sb (T++(bH o.law.fr o.law.tt o.law.c++[10]))),nv,wv] 31∧nZ w' vl' (ps++[(o.law,vw)])∧Mod (Pt b vl) w w'∧aN w vl vl'
theorem NH.cell{g n cap:Nat}{xs:List (List UInt8)}(h:Row NH w (Jn g n cap) xs){x:List UInt8}(hx:xs[i]?=some x):w.cell? (J g i)=some (.string (sb x)):=by
 have:=Row.cell h i 0 hx (u:=.string (sb x)) rfl;have e:i*NH.c+0=i:=by show i*1+0=i;omega
 rwa [e]at this
theorem aEZ(l:List UInt8)(i k:Nat):(sb l).extract i (i+k)=sb ((l.drop i).take k):=by
 apply ByteArray.ext;simp[sb,extract_eq_take_drop]
theorem Zo(ws:List (List UInt8))(P:List UInt8->Bool){j:Nat}{t:List UInt8}(h:ws[j]?=some t):(ws.drop j).any P=(P t||(ws.drop (j+1)).any P):=by
 obtain⟨h1,h2⟩:=bU h;rw[kJ h1,h2,any_cons]
theorem Oe(w:World)(B o:Nat)(vw:Value)(ws:List (List UInt8))(z:List UInt8)(i:Nat)(hc:w.cell? (J B o)=some vw)(hr:Row NH w vw ws)(hws:ws.length<=4)(hz:z.length<=1000000)(hi:i<=z.length)(ht:∀t∈ws,t.length<=10):J1 76 #[Jx B o,.string (sb z),I i] w fun e w'=>e=.returned (.bool (xI ws z i))∧w'=w:=by
 obtain⟨va,vc,rfl,hva,hcap,-⟩:=hr.any;obtain⟨n,hn⟩:=eX ws.length;rw[<-hn]at hc hr hws hcap;have HN:=qH hn;have HR:=qH hr;have HT:=qH ht;have sz:=ai z;obtain⟨A,hA⟩:=eX (ws.any fun t=>Th.stands t z i);have HA:Hd (xI ws z i=(A||decide (n=0))):=qH <| by
  unfold xI;rw[<-hA,hn];cases ws <;> simp
 have HA0:Hd ((ws.drop 0).any (fun t=>Th.stands t z i)=A):=hA.symm;generalize xI ws z i=R at HA ⊢;have hform:0<n->∃g,va=some (J g 0):=fun h=>by
  rcases hva with rfl | ⟨g,rfl,-⟩
  ·exfalso;have hf:=HR.o.form (by omega);obtain⟨g,cap,h1,-⟩:=hf;cases h1
  ·exact⟨g,rfl⟩
 clear hn hr ht hA hva;go_enter func76,ntmps76;go_wp2_with fail;go_loopg [14] n (fun g s14 wr=>∃j:Nat,j<=n∧g=n-j∧s14=I j∧(ws.drop j).any (fun t=>Th.stands t z i)=A∧wr=w)
 case atStart=>exact⟨0,by omega,by omega,rfl,HA0.o,rfl⟩
 case round=>
  obtain⟨j,hj,hg,rfl,hAj,rfl⟩:=hrel;by_cases hlt:j<n
  ·obtain⟨g,rfl⟩:=hform (by omega);obtain⟨t,ht⟩:∃t,ws[j]?=some t:=⟨ws[j]'(by have:=HN.o;omega),bG _⟩;have cj:=NH.cell HR.o ht;have htl:=HT.o t (iI ht);have hst:=Zo ws (fun t=>Th.stands t z i) ht;have hji:(j:Int)<n:=by omega
   have hj0:(0:Int)<=(j:Int):=by omega
   have st:=ai t;by_cases hfit:t.length<=z.length-i
   ·have hfi:(t.length:Int)<=z.length-(i:Int):=by omega
    have hex:=aEZ z i t.length;obtain⟨S,hS⟩:=eX ((z.drop i).take t.length);rw[<-hS]at hex;by_cases heq:S=t
    ·have HRT:Hd (R=true):=qH <| by
      rw[HA.o,<-hAj,hst];have:Th.stands t z i=true:=by unfold Th.stands;rw[<-hS,heq];simp[hfit]
      simp[this]
     subst heq;clear hS hst hAj;go_wp2_with fail;go_ret;exact⟨by rw[HRT.o];rfl,rfl⟩
    ·have rM:Hd ((ws.drop (j+1)).any (fun t=>Th.stands t z i)=A):=qH <| by
      rw[<-hAj,hst];have:Th.stands t z i=false:=by unfold Th.stands;rw[<-hS];simp[heq]
      simp[this]
     have hne:(S==t)=false:=by simpa using heq
     clear hS hst hAj;go_wp2_with fail;go_roundg (n-(j+1))
     case measure=>omega
     case rel=>exact⟨j+1,by omega,rfl,by go_num,rM.o,rfl⟩
   ·have hfi:¬(t.length:Int)<=z.length-(i:Int):=by omega
    have rM:Hd ((ws.drop (j+1)).any (fun t=>Th.stands t z i)=A):=qH <| by
     rw[<-hAj,hst];have:Th.stands t z i=false:=by unfold Th.stands;simp[hfit]
     simp[this]
    go_wp2_with fail;go_roundg (n-(j+1))
    case measure=>omega
    case rel=>exact⟨j+1,by omega,rfl,by go_num,rM.o,rfl⟩
  ·have hji:¬(j:Int)<n:=by omega
   have HRF:Hd (R=decide (n=0)):=qH <| by
    rw[HA.o,<-hAj,drop_of_length_le (by have:=HN.o;omega)];simp
   by_cases h0:n=0
   ·have hn0:((n:Int)==0)=true:=by rw[h0];rfl
    have HRT:Hd (R=true):=qH <| by rw[HRF.o,decide_eq_true h0]
    go_wp2_with fail;go_ret;exact⟨by rw[HRT.o];rfl,rfl⟩
   ·have hn0:((n:Int)==0)=false:=by rw[beq_eq_false_iff_ne];omega
    have HRT:Hd (R=false):=qH <| by rw[HRF.o,lT h0]
    go_wp2_with fail;go_ret;exact⟨by rw[HRT.o];rfl,rfl⟩
structure SC(w:World)(v:Value)(os:List xY):Prop where
 sl:∃a cap,v=.slice a os.length cap
 cell:∀a cap,v=.slice a os.length cap->∀(i:Nat) (o:xY),os[i]?=some o->∃B O,a=some (J B O)∧w.cell? (J B (O+i*5))=some (I o.form)∧w.cell? (J B (O+i*5+1))=some (I o.b)∧w.cell? (J B (O+i*5+2))=some (I o.c)∧w.cell? (J B (O+i*5+3))=some (.string (sb o.fr))∧w.cell? (J B (O+i*5+4))=some (.string (sb o.tt))
structure aDB(o:xY):Prop where
 f1:-9223372036854775808<=o.form
 f2:o.form<=9223372036854775807
 b1:-9223372036854775808<=o.b
 b2:o.b<=9223372036854775807
 c1:-9223372036854775808<=o.c
 c2:o.c<=9223372036854775807
 fr:o.fr.length<=281474976710656
 tt:o.tt.length<=281474976710656
theorem jD(hm:Mod No w w'){a:Addr}(h:w.cell? a=some v):w'.cell? a=some v:=by
 have hb:a.block<w.heap.size:=by
  unfold World.cell? at h;rcases e:w.heap[a.block]? with _ | x
  ·rw[e]at h;cases h
  ·exact(Array.getElem?_eq_some_iff.1 e).1
 have e:=hm.block a.block hb (fun x=>x);unfold World.cell? at h ⊢;rw[e];exact h
def kM(os:List xY):List Th.LR:=(os.take 5).map xY.law
theorem JY{o:xY}(h:os[i]?=some o)(hi:i<5):((os.take (i+1)).take 5).map xY.law=((os.take i).take 5).map xY.law++[o.law]:=by
 rw[take_take,take_take,Nat.min_eq_right (by omega),Nat.min_eq_right (by omega),take_add_one,h];simp
theorem JZ(hi:5<=i):((os.take (i+1)).take 5).map xY.law=((os.take i).take 5).map xY.law:=by
 rw[take_take,take_take,Nat.min_eq_left (by omega),Nat.min_eq_left (by omega)]
theorem CY:∀(l m:List Th.LR),aQ (l++m)=aQ l++aQ m
 | [],m=>rfl
 | a::l,m=>by rw[cons_append,aQ,aQ,CY l m];simp
theorem mr:∀(l:List Th.LR),(∀a∈l,a.Ok)->(aQ l).length<=19*l.length
 | [],_=>by simp[aQ]
 | a::l,h=>by
  have ih:=mr l fun x hx=>h x (mem_cons_of_mem _ hx)
  have ha:=h a mem_cons_self;have h1:=ha.side.f4;have h2:=ha.side.t4;have h3:=Ew ha.c;have h4:(iG a.c.text).length<=9:=by
   cases hc:a.c.text with
   | nil=>simp[iG]
   | cons x r=>rw[hc]at h3;simp[iG]at h3 ⊢;omega
  rw[aQ,bH,length_append,length_append,length_cons,length_append,length_cons,length_cons];omega
structure OfI(w:World)(os:List xY)(i:Nat)(b:Nat)(wr:World):Prop where
 md:Mod No w wr
 st:∃vl ps,aG wr b [vl,.string (sb (aQ (kM (os.take i)))),.pointer none,.pointer none] 31∧nZ wr vl ps∧ps.map Prod.fst=kM (os.take i)∧∀g,vl.ownBlock=some g->w.heap.size<=g
def aDC(os:List xY)(w:World)(e:Ending)(w':World):Prop:=Mod No w w'∧(e=.returned (.tuple #[.pointer none,.bool false])∨∃b vl ps,w.heap.size<=b∧e=.returned (.tuple #[Jx b 0,.bool true])∧aG w' b [vl,.string (sb (aQ (kM os))),.pointer none,.pointer none] 31∧nZ w' vl ps∧ps.map Prod.fst=kM os∧∀g,vl.ownBlock=some g->w.heap.size<=g)
theorem Vg(os:List xY):∀a∈kM os,a.Ok:=fun a ha=>by
 obtain⟨o,-,rfl⟩:=mem_map.1 ha;exact aDw o
theorem Og(os:List xY):(kM os).length<=5:=by
 unfold kM;rw[length_map,length_take];omega
theorem aDD(hR:Fp)(w:World)(v:Value)(os:List xY)(hA:SC w v os)(hos:os.length<=281474976710656)(hwf:∀o∈os,aDB o):J1 6 #[v] w fun e w'=>aDC os w e w':=by
 obtain⟨a,cap,rfl⟩:=hA.sl;have HC:Hd (∀wx,Mod No w wx->∀(i:Nat) (o:xY),os[i]?=some o->∃B O,a=some (J B O)∧wx.cell? (J B (O+i*5))=some (I o.form)∧wx.cell? (J B (O+i*5+1))=some (I o.b)∧wx.cell? (J B (O+i*5+2))=some (I o.c)∧wx.cell? (J B (O+i*5+3))=some (.string (sb o.fr))∧wx.cell? (J B (O+i*5+4))=some (.string (sb o.tt))):=fun wx hm i o ho=>by
  obtain⟨B,O,h0,h1,h2,h3,h4,h5⟩:=hA.cell a cap rfl i o ho;exact⟨B,O,h0,jD hm h1,jD hm h2,jD hm h3,jD hm h4,jD hm h5⟩
 obtain⟨n,hn⟩:=eX os.length;rw[<-hn]at hos ⊢;have HN:=qH hn;have HWF:=qH hwf;have HR:Hd Fp:=hR;clear hA hn hwf hR;by_cases hbig:1048576<n
 ·have hi:(1048576:Int)<(n:Int):=by omega
  go_enter func6,ntmps6;go_wp2;go_ret2;exact⟨Mod.refl _ _,Or.inl rfl⟩
 ·have hi:¬(1048576:Int)<(n:Int):=by omega
  go_enter func6,ntmps6;go_wp2_with fail;go_loopg [4,17] n (fun g s4 s17 wr=>∃(i m:Nat),i<=n∧g=n-i∧m<=1048576∧s4=I m∧s17=I i∧OfI w os i w.heap.size wr)
  case atStart=>exact⟨0,n,by omega,by omega,by omega,rfl,rfl,(Mod.refl No w).alloc _,.slice none 0 0,[],aG.new w _ _,⟨Row.nil _ _,fun p hp=>by cases hp⟩,rfl,fun g hg=>by simp[Value.ownBlock]at hg⟩
  case round=>
   obtain⟨i,m,hin,hg,hm,rfl,rfl,hI⟩:=hrel;by_cases hlt:i<n
   ·obtain⟨o,ho⟩:∃o,os[i]?=some o:=⟨os[i]'(by have:=HN.o;omega),bG _⟩;obtain⟨B,O,rfl,c0,c1,c2,c3,c4⟩:=HC.o wr hI.md i o ho;have hw:=HWF.o o (iI ho);have hii:(i:Int)<n:=by omega
    have hi0:(0:Int)<=(i:Int):=by omega
    have sfr:(sb o.fr).size=o.fr.length:=ai _;have stt:(sb o.tt).size=o.tt.length:=ai _;have lfr:=hw.fr;have ltt:=hw.tt;obtain⟨vl,ps,hB,hL,hps,hown⟩:=hI.st;obtain⟨la,lc,rfl,-,-,-⟩:=hL.row.any;have hpl:ps.length=min i 5:=by
     have h1:=congrArg length hps;rw[length_map]at h1;rw[h1];unfold kM;rw[length_map,length_take,length_take];have:=HN.o;omega
    obtain⟨q,hq⟩:=eX ps.length;have HB:Hd (aG wr w.heap.size [.slice la q lc,.string (sb (aQ (kM (os.take i)))),.pointer none,.pointer none] 31):=by rw[hq];exact hB
    have HL:Hd (nZ wr (.slice la q lc) ps):=by rw[hq];exact hL
    have HOWN:Hd (∀g,(Value.slice la q lc).ownBlock=some g->w.heap.size<=g):=by rw[hq];exact hown
    have HPS:=qH hps;have HM:=qH hI.md;have CA0:=HB.o.aS 0 rfl;have HQ:Hd (q=ps.length∧q=min i 5):=⟨hq,by rw[hq];exact hpl⟩;have HO:=qH ho;have HW:=qH hw;have hq5:q<=5:=by have:=HQ.o.2;omega
    clear hI ho hw hB hL hps hown hpl hq;by_cases htot:1048576<m+(o.fr.length+o.tt.length)
    ·have hti:(1048576:Int)<(m:Int)+((o.fr.length:Int)+(o.tt.length:Int)):=by omega
     go_wp2;go_ret2;exact⟨HM.o.alloc _,Or.inl rfl⟩
    ·have hti:¬(1048576:Int)<(m:Int)+((o.fr.length:Int)+(o.tt.length:Int)):=by omega
     have HAB:Hd (aG (wr.alloc (.cells #[I o.form,I o.b,I o.c,.string (sb o.fr),.string (sb o.tt)] 36)) w.heap.size [.slice la q lc,.string (sb (aQ (kM (os.take i)))),.pointer none,.pointer none] 31):=HB.o.alloc _;have HAL:Hd (nZ (wr.alloc (.cells #[I o.form,I o.b,I o.c,.string (sb o.fr),.string (sb o.tt)] 36)) (.slice la q lc) ps):=HL.o.mod ((Mod.refl _ _).alloc _);have HAM:Hd (Mod No w (wr.alloc (.cells #[I o.form,I o.b,I o.c,.string (sb o.fr),.string (sb o.tt)] 36))):=HM.o.alloc _;have hbx:=aG.new wr [I o.form,I o.b,I o.c,.string (sb o.fr),.string (sb o.tt)] 36;have x0:=hbx.cell 0 rfl;have x1:=hbx.cell 1 rfl;have x2:=hbx.cell 2 rfl;have x3:=hbx.cell 3 rfl;have x4:=hbx.cell 4 rfl;clear hbx;by_cases hq4:q<=4
     ·have hqi:(q:Int)<=4:=by omega
      have hi5:i<5:=by have:=HQ.o.2;omega
      have Vh:Hd (J1 10 #[Jx w.heap.size 0,.agg #[I o.form,I o.b,I o.c,.string (sb o.fr),.string (sb o.tt)]] (wr.alloc (.cells #[I o.form,I o.b,I o.c,.string (sb o.fr),.string (sb o.tt)] 36)) fun e w'=>e=.returned (.tuple #[])∧OfI w os (i+1) w.heap.size w'):=by
       have hw:=HW.o;refine(HR.o _ w.heap.size _ _ _ _ ps o ⟨hw.f1,hw.f2,hw.b1,hw.b2,hw.c1,hw.c2,by omega,by omega⟩ HAB.o HAL.o (by rw[<-HQ.o.1];exact hq4) (by have h1:=mr _ (Vg (os.take i));have h2:=Og (os.take i);omega)).mono ?_;rintro e w' ⟨he,vl',vw,hB',hL',hM',hF'⟩;refine⟨he,?_,vl',ps++[(o.law,vw)],?_,hL',?_,?_⟩
       ·exact HAM.o.trans' hM' fun k hk h=>by
         rcases h with h | h
         ·omega
         ·have:=HOWN.o k h;omega
       ·rw[show kM (os.take (i+1))=kM (os.take i)++[o.law] from JY HO.o hi5,CY];simpa [aQ] using hB'
       ·rw[map_append,HPS.o];exact(JY HO.o hi5).symm
       ·intro g hg;rcases hF' g hg with h | h
        ·exact HOWN.o g h
        ·have h1:=HAM.o.size;omega
      go_wp2_with fail;refine Vh.o.mono ?_;rintro e w' ⟨rfl,hI'⟩;have HI':Hd _:=hI';clear hI';go_wp2;go_roundg (n-(i+1))
      case measure=>omega
      case rel=>exact⟨i+1,m+(o.fr.length+o.tt.length),by omega,rfl,by omega,by go_num,by go_num,HI'.o⟩
     ·have hqi:¬(q:Int)<=4:=by omega
      have HI':Hd (OfI w os (i+1) w.heap.size (wr.alloc (.cells #[I o.form,I o.b,I o.c,.string (sb o.fr),.string (sb o.tt)] 36))):=by
       have hi5:5<=i:=by have:=HQ.o.2;omega
       refine⟨HAM.o,.slice la q lc,ps,?_,HAL.o,?_,HOWN.o⟩
       ·rw[show kM (os.take (i+1))=kM (os.take i) from JZ hi5];exact HAB.o
       ·rw[HPS.o];exact(JZ hi5).symm
      go_wp2;go_roundg (n-(i+1))
      case measure=>omega
      case rel=>exact⟨i+1,m+(o.fr.length+o.tt.length),by omega,rfl,by omega,by go_num,by go_num,HI'.o⟩
   ·have hii:¬(i:Int)<n:=by omega
    obtain rfl:i=n:=by omega
    have HI:=qH hI;clear hI;go_wp2;go_ret2;obtain⟨vl,ps,hB,hL,hps,hown⟩:=HI.o.st;rw[HN.o,take_length]at hB hps;exact⟨HI.o.md,Or.inr ⟨w.heap.size,vl,ps,dH _,rfl,hB,hL,hps,hown⟩⟩
def yL(vp:Value)(x:aI.Piece):Value:=.agg #[vp,.bool x.e,.int .u32 x.f,.int .u32 x.l]
theorem Fq(h:ps.length<=18):fD ps<=262144:=by
 unfold fD;rw[Di];exact Nat.le_trans (Nat.pow_le_pow_right (by omega) h) (by decide)
theorem aIX(w:World)(vp:Value)(ps:List aI.Place)(x:aI.Piece)(hrow:Row yY w vp ps)(hl:ps.length<=18):J1 143 #[yL vp x] w fun e w'=>e=.returned (.int .u32 (fD ps:Int))∧Mod No w w':=by
 obtain⟨a,cap,rfl,-,-,-⟩:=hrow.any;have H1:Hd (∀wx,J1 139 #[I ps.length] wx fun e w'=>e=.returned (.int .u32 (fD ps:Int))∧w'=wx):=fun wx=>yK ps.length (by omega) wx
 generalize fD ps=H at H1;generalize ps.length=n at H1 hl;unfold yL;go_enter func143,ntmps143;go_wp2_with fail;refine(H1.o _).mono ?_;rintro e w1 ⟨rfl,rfl⟩;go_wp2;go_ret;exact⟨rfl,(Mod.refl _ _).alloc _⟩
theorem SE(w:World)(vp:Value)(ps:List aI.Place)(x:aI.Piece)(hrow:Row yY w vp ps)(hl:ps.length<=18):J1 119 #[yL vp x] w fun e w'=>e=.returned (I ((fD ps+1:Nat):Int))∧Mod No w w':=by
 have H1:=qH fun o=>aIX _ vp ps x (hrow.alloc o) hl
 have hh:=Fq hl;generalize fD ps=H at H1 hh;obtain⟨a,cap,rfl,-,-,-⟩:=hrow.any;generalize ps.length=n at H1 hl;unfold yL at *;go_enter func119,ntmps119;go_wp2_with fail;refine(H1.o _).mono ?_;rintro e w1 ⟨rfl,m1⟩;go_wp2;go_ret;exact⟨bQ (by omega),((Mod.refl _ _).alloc _).no m1⟩
theorem J3(w:World)(vp:Value)(ps:List aI.Place)(x:aI.Piece)(st:Nat)(hrow:Row yY w vp ps)(hl:ps.length<=18):J1 123 #[yL vp x,I st] w fun e w'=>e=.returned (.bool (decide (st=fD ps)))∧Mod No w w':=by
 have H1:=qH fun o=>aIX _ vp ps x (hrow.alloc o) hl
 have hh:=Fq hl;generalize fD ps=H at H1 hh;have HC:=qH (vP st H);obtain⟨a,cap,rfl,-,-,-⟩:=hrow.any;generalize ps.length=n at H1 hl;unfold yL at *;go_enter func123,ntmps123;go_wp2_with fail;refine(H1.o _).mono ?_;rintro e w1 ⟨rfl,m1⟩;go_wp2;go_ret;exact⟨zZ HC.o,((Mod.refl _ _).alloc _).no m1⟩
theorem XD(w:World)(vp:Value)(ps:List aI.Place)(x:aI.Piece)(hrow:Row yY w vp ps)(hl:ps.length<=18)(hx:xg x):J1 121 #[yL vp x] w fun e w'=>e=.returned (I ((if x.e then fD ps else x.f:Nat):Int))∧Mod No w w':=by
 have H1:=qH fun o=>aIX _ vp ps x (hrow.alloc o) hl
 have hh:=Fq hl;generalize fD ps=H at H1 hh ⊢;obtain⟨a,cap,rfl,-,-,-⟩:=hrow.any;generalize ps.length=n at H1 hl;obtain⟨xe,xf,xl⟩:=x;have hxf:xf<4294967296:=hx.1;unfold yL at *
 dsimp only at *
 cases xe with
 | true=>
  rw[aP rfl];go_enter func121,ntmps121;go_wp2_with fail;refine(H1.o _).mono ?_;rintro e w1 ⟨rfl,m1⟩;go_wp2;go_ret;exact⟨bQ (by omega),((Mod.refl _ _).alloc _).no m1⟩
 | false=>
  rw[aU (by simp)];go_enter func121,ntmps121;go_wp2;go_ret;exact⟨bQ (by omega),(Mod.refl _ _).alloc _⟩
end
end Go.Proofs.YtoebidlghdidoaaGreatDoor
