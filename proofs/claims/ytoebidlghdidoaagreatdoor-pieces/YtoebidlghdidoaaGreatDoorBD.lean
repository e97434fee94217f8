import Derived.Test.YtoebidlghdidoaaGreatDoorBC
import Derived.Deep.OwnRows
import Derived.ChangeKeysEq
set_option maxHeartbeats 2000000
set_option maxRecDepth 100000
namespace Go.Proofs.YtoebidlghdidoaaGreatDoor
open Tryz List
namespace Ld
open Go.RowKit
variable {w w':World} {v:Value} {aC qs:List St} {B g n cap i m m' a b c x:Nat} {t l r xs s:List Nat} {q:St}
def Sts(w:World)(v:Value)(aC:List St):Prop:=w.ownsRow 0 104 9 v aC.length (flat aC)
theorem Sts.below(h:Sts w v aC)(hb:Below B w w')(hB:w.heap.size<=B):Sts w' v aC:=by
 refine⟨h.1,?_⟩;rcases h.2 with h2 | ⟨g,cap,cur,rfl,hg,hh,r⟩
 ·exact .inl h2
 ·exact .inr ⟨g,cap,cur,rfl,hg,(hb.block g (Nat.lt_of_lt_of_le (Array.getElem?_eq_some_iff.1 hh).1 hB)).trans hh,r⟩
theorem Sts.form(h:Sts w v aC)(h0:0<aC.length):∃g cap,v=Jn g aC.length cap∧g<w.heap.size∧aC.length<=cap:=by
 rcases h.2 with ⟨_,h2⟩ | ⟨g,cap,cur,rfl,hg,hh,r⟩
 ·omega
 ·exact⟨g,cap,rfl,(Array.getElem?_eq_some_iff.1 hh).1,r.1⟩
theorem flat_get(aC:List St):∀(i j:Nat) (q:St),aC[i]?=some q->j<9->(flat aC)[i*9+j]?=q.cells[j]?:=by
 induction aC with
 | nil=>intro i j q h;simp at h
 | cons a aC ih=>
  intro i j q h hj;have e:flat (a::aC)=a.cells.toList++flat aC:=by simp[flat]
  have l9:a.cells.toList.length=9:=rfl;rw[e]
  match i with
  | 0=>
   simp at h;subst h;rw[jG (by omega)];simp
  | i+1=>
   simp at h;rw[mW (by omega),l9,<-ih i j q h hj];congr 1;omega
theorem Sts.cell(h:Sts w (Jn g n cap) aC)(i j:Nat)(q:St)(v:Value)(hq:aC[i]?=some q)(hj:j<9)(hv:q.cells[j]?=some v):w.cell? (J g (i*9+j))=some v:=by
 have:=World.ownsRow.cells h (g:=g) rfl (i*9+j) v (by rw[flat_get aC i j q hq hj];exact hv);have hadd:((J g 0):Addr).add (i*9+j)=(J g (i*9+j)):=by unfold Addr.add;split <;> simp_all
 rw[hadd]at this;exact this
theorem Sts.nine(h:Sts w (Jn g n cap) aC)(i:Nat)(q:St)(hq:aC[i]?=some q):∃(S0 S1 S2 S3 S4:ByteArray) (N0 N1 N2 N3:Nat),(S0=⟨q.en.toArray⟩∧[S1,S2,S3,S4]=q.JP.map (fun l=>(⟨l.toArray⟩:ByteArray))∧[N0,N1,N2,N3]=q.nexts) ∧(w.cell? (J g (i*9))=some (.string S0)∧w.cell? (J g (i*9+1))=some (.string S1)∧w.cell? (J g (i*9+2))=some (.string S2)∧w.cell? (J g (i*9+3))=some (.string S3) ∧w.cell? (J g (i*9+4))=some (.string S4)∧w.cell? (J g (i*9+5))=some (I N0)∧w.cell? (J g (i*9+6))=some (I N1) ∧w.cell? (J g (i*9+7))=some (I N2)∧w.cell? (J g (i*9+8))=some (I N3)):=⟨_,_,_,_,_,_,_,_,_,⟨rfl,rfl,rfl⟩,h.cell i 0 q _ hq (by omega) rfl,h.cell i 1 q _ hq (by omega) rfl,h.cell i 2 q _ hq (by omega) rfl,h.cell i 3 q _ hq (by omega) rfl,h.cell i 4 q _ hq (by omega) rfl,h.cell i 5 q _ hq (by omega) rfl,h.cell i 6 q _ hq (by omega) rfl,h.cell i 7 q _ hq (by omega) rfl,h.cell i 8 q _ hq (by omega) rfl⟩
theorem aEw(N0 N1 N2 N3:Int)(w:World):(Instr.index 102 (.agg #[I N0,I N1,I N2,I N3]) (I 0)).run prog w=.ok (I N0) w:=by kernel_rfl
theorem aEx(N0 N1 N2 N3:Int)(w:World):(Instr.index 102 (.agg #[I N0,I N1,I N2,I N3]) (I 1)).run prog w=.ok (I N1) w:=by kernel_rfl
theorem aEy(N0 N1 N2 N3:Int)(w:World):(Instr.index 102 (.agg #[I N0,I N1,I N2,I N3]) (I 2)).run prog w=.ok (I N2) w:=by kernel_rfl
theorem aEz(N0 N1 N2 N3:Int)(w:World):(Instr.index 102 (.agg #[I N0,I N1,I N2,I N3]) (I 3)).run prog w=.ok (I N3) w:=by kernel_rfl
theorem zZ{a b:Bool}(h:a=b):Ending.returned (.bool a)=.returned (.bool b):=by rw[h]
theorem vP(m n:Nat):((m:Int)==(n:Int))=decide (m=n):=by
 rw[Bool.eq_iff_iff];simp;omega
theorem nJ{t:Nat}(hn:n=aC.length)(he:kY n (q::qs) i m=kY n aC 0 1)(hi:¬m<=i)(hq:q.nexts=l)(ht:fZ n (t::r) m'=fZ n l m)(h:m'<t∨n<=t):lK aC=false:=by
 have e:fZ n (t::r) m'=none:=by simp only[fZ];rw[aP h]
 rw[e]at ht;unfold lK;rw[<-hn,<-he];simp only[kY,if_neg hi,hq,<-ht];rfl
theorem aA3(he:kY n (q::qs) i m=kY n aC 0 1)(hi:¬m<=i)(hq:q.nexts=l)(ht:fZ n [] m'=fZ n l m):kY n qs (i+1) m'=kY n aC 0 1:=by
 rw[<-he];simp only[kY,if_neg hi,hq,<-ht];rfl
theorem AU{t:Nat}(ht:fZ n (t::r) m'=fZ n l m)(h1:¬m'<t)(h2:¬n<=t):fZ n r (if t=m' then m'+1 else m')=fZ n l m:=by
 rw[<-ht];simp only[fZ];rw[aU (show ¬(m'<t∨n<=t) by omega)]
theorem Hu(v:Value)(aC:List St)(w:World)(hst:Sts w v aC)(h0:0<aC.length)(hl:aC.length<=200):J1 71 #[v] w fun e w'=>e=.returned (.bool (lK aC))∧Below w.heap.size w w':=by
 obtain⟨g,cap,rfl,hg,hcap⟩:=hst.form h0;obtain⟨n,hn⟩:=eX aC.length;rw[<-hn]at h0 hl hcap hst ⊢;have UA:=qH hn;clear hn;go_enter func71,ntmps71;go_wp2
 go_loopw [3,10] (fun mt ii wr=>∃(i m:Nat),i<=n∧m<=4*i+1∧ii=I i∧mt=I m∧kY n (aC.drop i) i m=kY n aC 0 1∧Below w.heap.size w wr) (fun _ ii _=>n-(intOf ii).toNat)
 case atStart=>exact⟨0,1,by omega,by omega,rfl,rfl,rfl,Below.refl _ _⟩
 case round=>
  obtain⟨i,m,hi,hm,rfl,rfl,hN,hb⟩:=hrel;have HN:=qH hN;clear hN;have hsz:=hb.size;by_cases hlt:i<n
  ·obtain⟨q,hq⟩:∃q,aC[i]?=some q:=⟨aC[i]'(by have:=UA.o;omega),bG _⟩;have hst2:=hst.below hb (dH _);obtain⟨S0,S1,S2,S3,S4,N0,N1,N2,N3,hS,a0,a1,a2,a3,a4,a5,a6,a7,a8⟩:=hst2.nine i q hq;have hdr:aC.drop i=q::aC.drop (i+1):=by
    have h:=UA.o;rw[kJ (by omega)];rw[bG (by omega)]at hq;rw[dY hq]
   by_cases Vb:m<=i
   ·have HE:Hd (lK aC=false):=qH <| by
     unfold lK;rw[<-UA.o,<-HN.o,hdr];simp[kY,Vb]
    clear hdr hS hq;have aHb:(m:Int)<=i:=by omega
    go_wp2;go_ret;exact⟨by rw[HE.o];rfl,hb.alloc (by omega) _⟩
   ·have aHb:¬(m:Int)<=i:=by omega
    have HS:=qH hS.2.2.symm;have HE:Hd (kY n (q::aC.drop (i+1)) i m=kY n aC 0 1):=by
     show kY n (q::aC.drop (i+1)) i m=_;rw[<-hdr];exact HN.o
    clear hdr hS hq HN;go_wp2;have ix0:=aEw N0 N1 N2 N3;have ix1:=aEx N0 N1 N2 N3;have ix2:=aEy N0 N1 N2 N3;have ix3:=aEz N0 N1 N2 N3
    go_loopw [3,20] (fun mt jj wx=>∃(j m':Nat),j<=4∧m'<=m+j∧jj=I j∧mt=I m'∧fZ n ([N0,N1,N2,N3].drop j) m'=fZ n [N0,N1,N2,N3] m∧Below w.heap.size w wx) (fun _ jj _=>4-(intOf jj).toNat)
    case atStart=>exact⟨0,m,by omega,by omega,rfl,rfl,rfl,hb.alloc (by omega) _⟩
    case round=>
     obtain⟨j,m',hj,hm',rfl,rfl,hT,hb2⟩:=hrel;have HT:=qH hT;clear hT
     match j,hj with
     | 0,_=>
      by_cases h1:m'<N0
      ·have HF:=qH (nJ UA.o HE.o Vb HS.o HT.o (Or.inl h1));have h1i:(m':Int)<N0:=by omega
       go_wp2;go_ret;exact⟨by rw[HF.o];rfl,hb2⟩
      ·have h1i:¬(m':Int)<N0:=by omega
       by_cases h2:n<=N0
       ·have HF:=qH (nJ UA.o HE.o Vb HS.o HT.o (Or.inr h2));have Rx:(n:Int)<=N0:=by omega
        go_wp2;go_ret;exact⟨by rw[HF.o];rfl,hb2⟩
       ·have Rx:¬(n:Int)<=N0:=by omega
        have HT2:Hd _:=AU HT.o h1 h2;by_cases h3:((N0:Int)==(m':Int))=true
        ·have h4:N0=m':=by simp at h3;omega
         have HT3:Hd (fZ n ([N0,N1,N2,N3].drop 1) (m'+1)=fZ n [N0,N1,N2,N3] m):=by have:=HT2.o;rw[aP h4]at this;exact this
         clear HT2 HT h4;go_wp2
         go_roundw
         case rel=>exact⟨1,m'+1,by omega,by omega,rfl,by go_num,HT3.o,hb2⟩
         case measure=>simp[intOf]
        ·have h3f:((N0:Int)==(m':Int))=false:=by simpa using h3
         have h4:¬N0=m':=fun e=>by rw[e]at h3;simp at h3
         have HT3:Hd (fZ n ([N0,N1,N2,N3].drop 1) m'=fZ n [N0,N1,N2,N3] m):=by have:=HT2.o;rw[aU h4]at this;exact this
         clear HT2 HT h4 h3;go_wp2
         go_roundw
         case rel=>exact⟨1,m',by omega,by omega,rfl,rfl,HT3.o,hb2⟩
         case measure=>simp[intOf]
     | 1,_=>
      by_cases h1:m'<N1
      ·have HF:=qH (nJ UA.o HE.o Vb HS.o HT.o (Or.inl h1));have h1i:(m':Int)<N1:=by omega
       go_wp2;go_ret;exact⟨by rw[HF.o];rfl,hb2⟩
      ·have h1i:¬(m':Int)<N1:=by omega
       by_cases h2:n<=N1
       ·have HF:=qH (nJ UA.o HE.o Vb HS.o HT.o (Or.inr h2));have Rx:(n:Int)<=N1:=by omega
        go_wp2;go_ret;exact⟨by rw[HF.o];rfl,hb2⟩
       ·have Rx:¬(n:Int)<=N1:=by omega
        have HT2:Hd _:=AU HT.o h1 h2;by_cases h3:((N1:Int)==(m':Int))=true
        ·have h4:N1=m':=by simp at h3;omega
         have HT3:Hd (fZ n ([N0,N1,N2,N3].drop 2) (m'+1)=fZ n [N0,N1,N2,N3] m):=by have:=HT2.o;rw[aP h4]at this;exact this
         clear HT2 HT h4;go_wp2
         go_roundw
         case rel=>exact⟨2,m'+1,by omega,by omega,rfl,by go_num,HT3.o,hb2⟩
         case measure=>simp[intOf]
        ·have h3f:((N1:Int)==(m':Int))=false:=by simpa using h3
         have h4:¬N1=m':=fun e=>by rw[e]at h3;simp at h3
         have HT3:Hd (fZ n ([N0,N1,N2,N3].drop 2) m'=fZ n [N0,N1,N2,N3] m):=by have:=HT2.o;rw[aU h4]at this;exact this
         clear HT2 HT h4 h3;go_wp2
         go_roundw
         case rel=>exact⟨2,m',by omega,by omega,rfl,rfl,HT3.o,hb2⟩
         case measure=>simp[intOf]
     | 2,_=>
      by_cases h1:m'<N2
      ·have HF:=qH (nJ UA.o HE.o Vb HS.o HT.o (Or.inl h1));have h1i:(m':Int)<N2:=by omega
       go_wp2;go_ret;exact⟨by rw[HF.o];rfl,hb2⟩
      ·have h1i:¬(m':Int)<N2:=by omega
       by_cases h2:n<=N2
       ·have HF:=qH (nJ UA.o HE.o Vb HS.o HT.o (Or.inr h2));have Rx:(n:Int)<=N2:=by omega
        go_wp2;go_ret;exact⟨by rw[HF.o];rfl,hb2⟩
       ·have Rx:¬(n:Int)<=N2:=by omega
        have HT2:Hd _:=AU HT.o h1 h2;by_cases h3:((N2:Int)==(m':Int))=true
        ·have h4:N2=m':=by simp at h3;omega
         have HT3:Hd (fZ n ([N0,N1,N2,N3].drop 3) (m'+1)=fZ n [N0,N1,N2,N3] m):=by have:=HT2.o;rw[aP h4]at this;exact this
         clear HT2 HT h4;go_wp2
         go_roundw
         case rel=>exact⟨3,m'+1,by omega,by omega,rfl,by go_num,HT3.o,hb2⟩
         case measure=>simp[intOf]
        ·have h3f:((N2:Int)==(m':Int))=false:=by simpa using h3
         have h4:¬N2=m':=fun e=>by rw[e]at h3;simp at h3
         have HT3:Hd (fZ n ([N0,N1,N2,N3].drop 3) m'=fZ n [N0,N1,N2,N3] m):=by have:=HT2.o;rw[aU h4]at this;exact this
         clear HT2 HT h4 h3;go_wp2
         go_roundw
         case rel=>exact⟨3,m',by omega,by omega,rfl,rfl,HT3.o,hb2⟩
         case measure=>simp[intOf]
     | 3,_=>
      by_cases h1:m'<N3
      ·have HF:=qH (nJ UA.o HE.o Vb HS.o HT.o (Or.inl h1));have h1i:(m':Int)<N3:=by omega
       go_wp2;go_ret;exact⟨by rw[HF.o];rfl,hb2⟩
      ·have h1i:¬(m':Int)<N3:=by omega
       by_cases h2:n<=N3
       ·have HF:=qH (nJ UA.o HE.o Vb HS.o HT.o (Or.inr h2));have Rx:(n:Int)<=N3:=by omega
        go_wp2;go_ret;exact⟨by rw[HF.o];rfl,hb2⟩
       ·have Rx:¬(n:Int)<=N3:=by omega
        have HT2:Hd _:=AU HT.o h1 h2;by_cases h3:((N3:Int)==(m':Int))=true
        ·have h4:N3=m':=by simp at h3;omega
         have HT3:Hd (fZ n ([N0,N1,N2,N3].drop 4) (m'+1)=fZ n [N0,N1,N2,N3] m):=by have:=HT2.o;rw[aP h4]at this;exact this
         clear HT2 HT h4;go_wp2
         go_roundw
         case rel=>exact⟨4,m'+1,by omega,by omega,rfl,by go_num,HT3.o,hb2⟩
         case measure=>simp[intOf]
        ·have h3f:((N3:Int)==(m':Int))=false:=by simpa using h3
         have h4:¬N3=m':=fun e=>by rw[e]at h3;simp at h3
         have HT3:Hd (fZ n ([N0,N1,N2,N3].drop 4) m'=fZ n [N0,N1,N2,N3] m):=by have:=HT2.o;rw[aU h4]at this;exact this
         clear HT2 HT h4 h3;go_wp2
         go_roundw
         case rel=>exact⟨4,m',by omega,by omega,rfl,rfl,HT3.o,hb2⟩
         case measure=>simp[intOf]
     | 4,_=>
      have HT3:=qH (aA3 HE.o Vb HS.o HT.o);go_wp2
      go_roundw
      case rel=>exact⟨i+1,m',by omega,by omega,by go_num,rfl,HT3.o,hb2⟩
      case measure=>simp[intOf];omega
  ·have hin:i=n:=by omega
   have HE:Hd (lK aC=decide (m=n)):=by
    show lK aC=_;unfold lK;rw[<-UA.o,<-HN.o,hin,drop_eq_nil_of_le (by rw[UA.o];exact dH _)];simp[kY];rfl
   clear hin;go_wp2;go_ret;refine⟨?_,hb⟩;rw[HE.o];exact zZ (vP m n)
theorem YH(c:UInt8):jI c<512:=by
 unfold jI
 repeat' split
 all_goals omega
theorem MX(s:ByteArray):lV s<512:=by
 unfold lV;split
 ·exact YH _
 ·omega
theorem D7(s:ByteArray)(w:World)(h0:s.size=0):J1 153 #[.string s] w fun e w'=>e=.returned (I (lV s:Int))∧∃n,w'=w.drewN n:=by
 have hs:s.toList.isEmpty=true:=by rw[fG];simpa using h0
 have e:lV s=256:=by unfold lV;rw[dif_neg (by omega)]
 rw[e];go_enter func153,ntmps153;go_wp2;go_ret;exact⟨rfl,0,rfl⟩
theorem aIx{wr:World}{k:Nat}(h:∃n,wr=w.drewN n):∃n,wr.drewN k=w.drewN n:=by
 obtain⟨n,rfl⟩:=h;exact⟨n+k,by simp⟩
theorem Hw(s:ByteArray)(w:World)(hp:0<s.size):J1 153 #[.string s] w fun e w'=>e=.returned (I (lV s:Int))∧∃n,w'=w.drewN n:=by
 have hs:s.toList.isEmpty=false:=by rw[fG];exact lT (by omega)
 have e:lV s=jI s[0]:=by unfold lV;rw[dif_pos hp]
 rw[e];have hpi:(0:Int)<(s.size:Int):=by omega
 obtain⟨c,hc⟩:=eX (s[0]);rw[<-hc];have hcn:((s[0]'hp).toNat:Int)=(c.toNat:Int):=by rw[hc]
 clear hc e;go_enter func153,ntmps153;go_wp2
 go_loopw [3,4] (fun bt ii wr=>∃(i b:Nat),i<=8∧b=2^i∧ii=I i∧bt=I b∧(∀j,j<i->c.toNat≠[97,98,99,100,65,66,67,68].getD j 0)∧∃n,wr=w.drewN n) (fun _ ii _=>8-(intOf ii).toNat)
 case atStart=>exact⟨0,1,by omega,rfl,rfl,rfl,fun j hj=>by omega,0,rfl⟩
 case round=>
  obtain⟨i,b,hi,hb,rfl,rfl,hj,hw⟩:=hrel;have HW:=qH hw;clear hw;have HJ:=qH hj;clear hj
  match i,hi with
  | 0,_=>
   obtain rfl:b=1:=hb;by_cases h:((97:Int)==(c.toNat:Int))=true
   ·have hl:jI c=1:=by
     have:c=97:=UInt8.toNat_inj.1 (by simp at h;simp;omega);rw[this];rfl
    have HL:Hd _:=hl;clear hl;have h':((((⟨#[97,98,99,100,65,66,67,68]⟩:ByteArray)[0]'(by decide)).toNat:Int)==(c.toNat:Int))=true:=h;go_wp2;go_quiet (fail);go_wp2;go_ret;exact⟨by rw[HL.o];rfl,aIx HW.o⟩
   ·have hf:((97:Int)==(c.toNat:Int))=false:=by simpa using h
    clear h;have HK:Hd (∀j,j<1->c.toNat≠[97,98,99,100,65,66,67,68].getD j 0):=qH <| by
     intro j hj;rcases iK j 0 with h2 | h2
     ·exact HJ.o j h2
     ·obtain rfl:j=0:=by omega
      intro e;rw[e]at hf;exact absurd hf (by decide)
    clear HJ;have h':((((⟨#[97,98,99,100,65,66,67,68]⟩:ByteArray)[0]'(by decide)).toNat:Int)==(c.toNat:Int))=false:=hf;go_wp2;go_quiet (fail);go_wp2
    go_roundw
    case rel=>exact⟨1,2,by omega,rfl,rfl,rfl,HK.o,aIx HW.o⟩
    case measure=>simp[intOf]
  | 1,_=>
   obtain rfl:b=2:=hb;by_cases h:((98:Int)==(c.toNat:Int))=true
   ·have hl:jI c=2:=by
     have:c=98:=UInt8.toNat_inj.1 (by simp at h;simp;omega);rw[this];rfl
    have HL:Hd _:=hl;clear hl;have h':((((⟨#[97,98,99,100,65,66,67,68]⟩:ByteArray)[1]'(by decide)).toNat:Int)==(c.toNat:Int))=true:=h;go_wp2;go_quiet (fail);go_wp2;go_ret;exact⟨by rw[HL.o];rfl,aIx HW.o⟩
   ·have hf:((98:Int)==(c.toNat:Int))=false:=by simpa using h
    clear h;have HK:Hd (∀j,j<2->c.toNat≠[97,98,99,100,65,66,67,68].getD j 0):=qH <| by
     intro j hj;rcases iK j 1 with h2 | h2
     ·exact HJ.o j h2
     ·obtain rfl:j=1:=by omega
      intro e;rw[e]at hf;exact absurd hf (by decide)
    clear HJ;have h':((((⟨#[97,98,99,100,65,66,67,68]⟩:ByteArray)[1]'(by decide)).toNat:Int)==(c.toNat:Int))=false:=hf;go_wp2;go_quiet (fail);go_wp2
    go_roundw
    case rel=>exact⟨2,4,by omega,rfl,rfl,rfl,HK.o,aIx HW.o⟩
    case measure=>simp[intOf]
  | 2,_=>
   obtain rfl:b=4:=hb;by_cases h:((99:Int)==(c.toNat:Int))=true
   ·have hl:jI c=4:=by
     have:c=99:=UInt8.toNat_inj.1 (by simp at h;simp;omega);rw[this];rfl
    have HL:Hd _:=hl;clear hl;have h':((((⟨#[97,98,99,100,65,66,67,68]⟩:ByteArray)[2]'(by decide)).toNat:Int)==(c.toNat:Int))=true:=h;go_wp2;go_quiet (fail);go_wp2;go_ret;exact⟨by rw[HL.o];rfl,aIx HW.o⟩
   ·have hf:((99:Int)==(c.toNat:Int))=false:=by simpa using h
    clear h;have HK:Hd (∀j,j<3->c.toNat≠[97,98,99,100,65,66,67,68].getD j 0):=qH <| by
     intro j hj;rcases iK j 2 with h2 | h2
     ·exact HJ.o j h2
     ·obtain rfl:j=2:=by omega
      intro e;rw[e]at hf;exact absurd hf (by decide)
    clear HJ;have h':((((⟨#[97,98,99,100,65,66,67,68]⟩:ByteArray)[2]'(by decide)).toNat:Int)==(c.toNat:Int))=false:=hf;go_wp2;go_quiet (fail);go_wp2
    go_roundw
    case rel=>exact⟨3,8,by omega,rfl,rfl,rfl,HK.o,aIx HW.o⟩
    case measure=>simp[intOf]
  | 3,_=>
   obtain rfl:b=8:=hb;by_cases h:((100:Int)==(c.toNat:Int))=true
   ·have hl:jI c=8:=by
     have:c=100:=UInt8.toNat_inj.1 (by simp at h;simp;omega);rw[this];rfl
    have HL:Hd _:=hl;clear hl;have h':((((⟨#[97,98,99,100,65,66,67,68]⟩:ByteArray)[3]'(by decide)).toNat:Int)==(c.toNat:Int))=true:=h;go_wp2;go_quiet (fail);go_wp2;go_ret;exact⟨by rw[HL.o];rfl,aIx HW.o⟩
   ·have hf:((100:Int)==(c.toNat:Int))=false:=by simpa using h
    clear h;have HK:Hd (∀j,j<4->c.toNat≠[97,98,99,100,65,66,67,68].getD j 0):=qH <| by
     intro j hj;rcases iK j 3 with h2 | h2
     ·exact HJ.o j h2
     ·obtain rfl:j=3:=by omega
      intro e;rw[e]at hf;exact absurd hf (by decide)
    clear HJ;have h':((((⟨#[97,98,99,100,65,66,67,68]⟩:ByteArray)[3]'(by decide)).toNat:Int)==(c.toNat:Int))=false:=hf;go_wp2;go_quiet (fail);go_wp2
    go_roundw
    case rel=>exact⟨4,16,by omega,rfl,rfl,rfl,HK.o,aIx HW.o⟩
    case measure=>simp[intOf]
  | 4,_=>
   obtain rfl:b=16:=hb;by_cases h:((65:Int)==(c.toNat:Int))=true
   ·have hl:jI c=16:=by
     have:c=65:=UInt8.toNat_inj.1 (by simp at h;simp;omega);rw[this];rfl
    have HL:Hd _:=hl;clear hl;have h':((((⟨#[97,98,99,100,65,66,67,68]⟩:ByteArray)[4]'(by decide)).toNat:Int)==(c.toNat:Int))=true:=h;go_wp2;go_quiet (fail);go_wp2;go_ret;exact⟨by rw[HL.o];rfl,aIx HW.o⟩
   ·have hf:((65:Int)==(c.toNat:Int))=false:=by simpa using h
    clear h;have HK:Hd (∀j,j<5->c.toNat≠[97,98,99,100,65,66,67,68].getD j 0):=qH <| by
     intro j hj;rcases iK j 4 with h2 | h2
     ·exact HJ.o j h2
     ·obtain rfl:j=4:=by omega
      intro e;rw[e]at hf;exact absurd hf (by decide)
    clear HJ;have h':((((⟨#[97,98,99,100,65,66,67,68]⟩:ByteArray)[4]'(by decide)).toNat:Int)==(c.toNat:Int))=false:=hf;go_wp2;go_quiet (fail);go_wp2
    go_roundw
    case rel=>exact⟨5,32,by omega,rfl,rfl,rfl,HK.o,aIx HW.o⟩
    case measure=>simp[intOf]
  | 5,_=>
   obtain rfl:b=32:=hb;by_cases h:((66:Int)==(c.toNat:Int))=true
   ·have hl:jI c=32:=by
     have:c=66:=UInt8.toNat_inj.1 (by simp at h;simp;omega);rw[this];rfl
    have HL:Hd _:=hl;clear hl;have h':((((⟨#[97,98,99,100,65,66,67,68]⟩:ByteArray)[5]'(by decide)).toNat:Int)==(c.toNat:Int))=true:=h;go_wp2;go_quiet (fail);go_wp2;go_ret;exact⟨by rw[HL.o];rfl,aIx HW.o⟩
   ·have hf:((66:Int)==(c.toNat:Int))=false:=by simpa using h
    clear h;have HK:Hd (∀j,j<6->c.toNat≠[97,98,99,100,65,66,67,68].getD j 0):=qH <| by
     intro j hj;rcases iK j 5 with h2 | h2
     ·exact HJ.o j h2
     ·obtain rfl:j=5:=by omega
      intro e;rw[e]at hf;exact absurd hf (by decide)
    clear HJ;have h':((((⟨#[97,98,99,100,65,66,67,68]⟩:ByteArray)[5]'(by decide)).toNat:Int)==(c.toNat:Int))=false:=hf;go_wp2;go_quiet (fail);go_wp2
    go_roundw
    case rel=>exact⟨6,64,by omega,rfl,rfl,rfl,HK.o,aIx HW.o⟩
    case measure=>simp[intOf]
  | 6,_=>
   obtain rfl:b=64:=hb;by_cases h:((67:Int)==(c.toNat:Int))=true
   ·have hl:jI c=64:=by
     have:c=67:=UInt8.toNat_inj.1 (by simp at h;simp;omega);rw[this];rfl
    have HL:Hd _:=hl;clear hl;have h':((((⟨#[97,98,99,100,65,66,67,68]⟩:ByteArray)[6]'(by decide)).toNat:Int)==(c.toNat:Int))=true:=h;go_wp2;go_quiet (fail);go_wp2;go_ret;exact⟨by rw[HL.o];rfl,aIx HW.o⟩
   ·have hf:((67:Int)==(c.toNat:Int))=false:=by simpa using h
    clear h;have HK:Hd (∀j,j<7->c.toNat≠[97,98,99,100,65,66,67,68].getD j 0):=qH <| by
     intro j hj;rcases iK j 6 with h2 | h2
     ·exact HJ.o j h2
     ·obtain rfl:j=6:=by omega
      intro e;rw[e]at hf;exact absurd hf (by decide)
    clear HJ;have h':((((⟨#[97,98,99,100,65,66,67,68]⟩:ByteArray)[6]'(by decide)).toNat:Int)==(c.toNat:Int))=false:=hf;go_wp2;go_quiet (fail);go_wp2
    go_roundw
    case rel=>exact⟨7,128,by omega,rfl,rfl,rfl,HK.o,aIx HW.o⟩
    case measure=>simp[intOf]
  | 7,_=>
   obtain rfl:b=128:=hb;by_cases h:((68:Int)==(c.toNat:Int))=true
   ·have hl:jI c=128:=by
     have:c=68:=UInt8.toNat_inj.1 (by simp at h;simp;omega);rw[this];rfl
    have HL:Hd _:=hl;clear hl;have h':((((⟨#[97,98,99,100,65,66,67,68]⟩:ByteArray)[7]'(by decide)).toNat:Int)==(c.toNat:Int))=true:=h;go_wp2;go_quiet (fail);go_wp2;go_ret;exact⟨by rw[HL.o];rfl,aIx HW.o⟩
   ·have hf:((68:Int)==(c.toNat:Int))=false:=by simpa using h
    clear h;have HK:Hd (∀j,j<8->c.toNat≠[97,98,99,100,65,66,67,68].getD j 0):=qH <| by
     intro j hj;rcases iK j 7 with h2 | h2
     ·exact HJ.o j h2
     ·obtain rfl:j=7:=by omega
      intro e;rw[e]at hf;exact absurd hf (by decide)
    clear HJ;have h':((((⟨#[97,98,99,100,65,66,67,68]⟩:ByteArray)[7]'(by decide)).toNat:Int)==(c.toNat:Int))=false:=hf;go_wp2;go_quiet (fail);go_wp2
    go_roundw
    case rel=>exact⟨8,256,by omega,rfl,rfl,rfl,HK.o,aIx HW.o⟩
    case measure=>simp[intOf]
  | 8,_=>
   have hl:jI c=0:=by
    have hne:∀(d:UInt8) (j:Nat),j<8->[97,98,99,100,65,66,67,68].getD j 0=d.toNat->c≠d:=fun d j h1 h2 e=>HJ.o j h1 (by rw[h2,e])
    unfold jI;rw[aU (hne 97 0 (by omega) rfl),aU (hne 98 1 (by omega) rfl),aU (hne 99 2 (by omega) rfl),aU (hne 100 3 (by omega) rfl),aU (hne 65 4 (by omega) rfl),aU (hne 66 5 (by omega) rfl),aU (hne 67 6 (by omega) rfl),aU (hne 68 7 (by omega) rfl)]
   have HL:Hd _:=hl;clear hl;go_wp2;go_ret;exact⟨by rw[HL.o];rfl,HW.o⟩
theorem kH(s:ByteArray)(w:World):J1 153 #[.string s] w fun e w'=>e=.returned (I (lV s:Int))∧∃n,w'=w.drewN n:=by
 rcases Nat.eq_zero_or_pos s.size with h | h
 ·exact D7 s w h
 ·exact Hw s w h
theorem uM(a b:Nat)(ha:a<512)(hb:b<512):bits .or .i64 (a:Int) (b:Int)=((a ||| b:Nat):Int):=by
 have hx:a ||| b<2^9:=Nat.or_lt_two_pow (by omega) (by omega);show IntKind.i64.wrap ((BitVec.ofInt 64 (a:Int) ||| BitVec.ofInt 64 (b:Int)).toNat:Int)=_;rw[BitVec.toNat_or,ofInt_u64 a (by omega),ofInt_u64 b (by omega),IntKind.wrap_i64];omega
theorem Hy(a b:Nat)(ha:a<512)(hb:b<512):a ||| b<512:=Nat.or_lt_two_pow (n:=9) (by omega) (by omega)
def Ints(w:World)(v:Value)(xs:List Nat):Prop:=w.ownsRow 0 3 1 v xs.length (xs.map fun(x:Nat)=>I x)
theorem Ints.below(h:Ints w v xs)(hb:Below B w w')(hB:w.heap.size<=B):Ints w' v xs:=by
 refine⟨h.1,?_⟩;rcases h.2 with h2 | ⟨g,cap,cur,rfl,hg,hh,r⟩
 ·exact .inl h2
 ·exact .inr ⟨g,cap,cur,rfl,hg,(hb.block g (Nat.lt_of_lt_of_le (Array.getElem?_eq_some_iff.1 hh).1 hB)).trans hh,r⟩
theorem Ints.form(h:Ints w v xs)(h0:0<xs.length):∃g cap,v=Jn g xs.length cap∧g<w.heap.size∧xs.length<=cap:=by
 rcases h.2 with ⟨_,h2⟩ | ⟨g,cap,cur,rfl,hg,hh,r⟩
 ·omega
 ·exact⟨g,cap,rfl,(Array.getElem?_eq_some_iff.1 hh).1,r.1⟩
theorem Ints.cell(h:Ints w (Jn g n cap) xs)(i x:Nat)(hx:xs[i]?=some x):w.cell? (J g i)=some (I x):=by
 have:=World.ownsRow.cells h (g:=g) rfl i (I x) (by simp[hx]);have hadd:((J g 0):Addr).add i=(J g i):=by unfold Addr.add;split <;> simp_all
 rw[hadd]at this;exact this
theorem kZ(S:ByteArray)(N:Nat)(sets:List Nat)(h:∀x∈sets,x<512):bT S N sets<512:=by
 unfold bT;split
 ·rw[fM]
  cases hx:sets[N]? with
  | none=>simp
  | some x=>exact h x (iI hx)
 ·exact MX S
theorem BQ(S0 S1 S2 S3 S4:ByteArray)(N0 N1 N2 N3:Nat)(v:Value)(sets:List Nat)(w:World)(hst:Ints w v sets)(hlt:∀x∈sets,x<512)
  (l0:N0<sets.length) (l1:N1<sets.length) (l2:N2<sets.length) (l3:N3<sets.length) (hl:sets.length<=200):J1 137 #[.agg #[.string S0,.string S1,.string S2,.string S3,.string S4,I N0,I N1,I N2,I N3],v] w fun e w'=>
   e=.returned (I (bgA S0 S1 S2 S3 S4 N0 N1 N2 N3 sets 4:Int))∧Below w.heap.size w w':=by
 obtain⟨g,cap,rfl,hg,hcap⟩:=hst.form (by omega);obtain⟨A,hA⟩:=eX (bgA S0 S1 S2 S3 S4 N0 N1 N2 N3 sets);obtain⟨n,hn⟩:=eX sets.length;rw[<-hA];have A0:A 0=lV S0:=by rw[hA];rfl
 have AJ:∀j,j<4->A (j+1)=A j ||| bT ([S1,S2,S3,S4].getD j ⟨#[]⟩) ([N0,N1,N2,N3].getD j 0) sets∧[N0,N1,N2,N3].getD j 0<sets.length:=fun j hj=>by
  rw[hA]
  match j,hj with
  | 0,_=>exact⟨rfl,l0⟩
  | 1,_=>exact⟨rfl,l1⟩
  | 2,_=>exact⟨rfl,l2⟩
  | 3,_=>exact⟨rfl,l3⟩
 have AL:∀j,j<4->A j<512:=fun j=>by
  induction j with
  | zero=>intro _;rw[A0];exact MX S0
  | succ j ih=>intro h;rw[(AJ j (by omega)).1];exact Hy _ _ (ih (by omega)) (kZ _ _ sets hlt)
 have HOR:Hd (∀j,j<4->bits .or .i64 (A j:Int) (bT ([S1,S2,S3,S4].getD j ⟨#[]⟩) ([N0,N1,N2,N3].getD j 0) sets:Int)=(A (j+1):Int)∧[N0,N1,N2,N3].getD j 0<sets.length):=fun j hj=>⟨by rw[(AJ j hj).1];exact uM _ _ (AL j hj) (kZ _ _ sets hlt),(AJ j hj).2⟩
 have HA0:=qH A0;have HN:=qH hn;rw[<-hn]at HOR hl hcap hst ⊢;clear hA A0 AJ AL l0 l1 l2 l3 hn hlt;go_enter func137,ntmps137;go_wp2_with (go_at_call 153;refine(kH _ _).mono ?_;rintro e w1 ⟨rfl,nn,rfl⟩;refine Hd.o ?_);refine Lib.hid ?_;go_wp2
 go_loopw [5,13] (fun st jj wr=>∃(j nn:Nat),j<=4∧jj=I j∧st=I (A j:Int)∧wr=(w.alloc (.cells #[.string S0,.string S1,.string S2,.string S3,.string S4,I N0,I N1,I N2,I N3] 104)).drewN nn) (fun _ jj _=>4-(intOf jj).toNat)
 case atStart=>exact⟨0,nn,by omega,rfl,by rw[HA0.o],rfl⟩
 case round=>
  obtain⟨j,nn,hj,rfl,rfl,rfl⟩:=hrel;by_cases hj4:j<4
  ·have hji:(j:Int)<4:=by omega
   have hix:=aJ2 j hj4 S1 S2 S3 S4;have hcn:(w.alloc (.cells #[.string S0,.string S1,.string S2,.string S3,.string S4,I N0,I N1,I N2,I N3] 104)).cell? (J w.heap.size (5+j))=some (I (([N0,N1,N2,N3].getD j 0:Nat):Int)):=by
    have h:aG (w.alloc (.cells #[.string S0,.string S1,.string S2,.string S3,.string S4,I N0,I N1,I N2,I N3] 104)) w.heap.size [.string S0,.string S1,.string S2,.string S3,.string S4,I N0,I N1,I N2,I N3] 104:=heap_alloc_new w _
    match j,hj4 with
    | 0,_=>exact h.cell 5 rfl
    | 1,_=>exact h.cell 6 rfl
    | 2,_=>exact h.cell 7 rfl
    | 3,_=>exact h.cell 8 rfl
   obtain⟨hO,hMn⟩:=HOR.o j hj4;obtain⟨X,hX⟩:=eX ([S1,S2,S3,S4].getD j ⟨#[]⟩);obtain⟨M,hM⟩:=eX ([N0,N1,N2,N3].getD j 0);rw[<-hX]at hix hO;rw[<-hM]at hcn hO hMn;clear hX hM HOR;have HOR:=qH hO;clear hO;by_cases he:X.size=0
   ·have hee:X.toList.isEmpty=true:=by rw[fG];exact decide_eq_true he
    obtain⟨x,hx⟩:∃x,sets[M]?=some x:=⟨sets[M]'(by have:=HN.o;omega),bG _⟩;have hc:=hst.cell M x hx;have hor:bits .or .i64 (A j:Int) (x:Int)=(A (j+1):Int):=by
     have:=HOR.o;rw[show bT X M sets=x by unfold bT;rw[aP he,fM,hx];rfl]at this;exact this
    have hni:(M:Int)<n:=by omega
    clear hx he;go_wp2
    go_roundw
    case rel=>exact⟨j+1,_,by omega,by go_num,by rw[<-hor],rfl⟩
    case measure=>simp[intOf];omega
   ·have hee:X.toList.isEmpty=false:=by rw[fG];exact lT he
    have hor:bits .or .i64 (A j:Int) (lV X:Int)=(A (j+1):Int):=by
     have:=HOR.o;rw[show bT X M sets=lV X by unfold bT;rw[aU he]]at this;exact this
    clear he;go_wp2_with (go_at_call 153;refine(kH _ _).mono ?_;rintro e w1 ⟨rfl,mm,rfl⟩;refine Hd.o ?_);refine Lib.hid ?_;go_wp2
    go_roundw
    case rel=>exact⟨j+1,_,by omega,by go_num,by rw[<-hor],rfl⟩
    case measure=>simp[intOf];omega
  ·obtain rfl:j=4:=by omega
   go_wp2;go_ret;exact⟨rfl,sD ((Below.refl _ _).alloc (dH _) _) _⟩
theorem Sub.refl(a:Nat):Sub a a:=fun _ h=>h
theorem Sub.trans(h:Sub a b)(k:Sub b c):Sub a c:=fun i hi=>k i (h i hi)
theorem Sub.zero(a:Nat):Sub 0 a:=fun i h=>by simp at h
theorem Sub.or{d:Nat}(h:Sub a b)(k:Sub c d):Sub (a ||| c) (b ||| d):=fun i hi=>by
 rw[Nat.testBit_or]at hi ⊢;rw[Bool.or_eq_true]at hi;rcases hi with h1 | h1
 ·rw[h i h1];rfl
 ·rw[k i h1];simp
theorem Sub.le(h:Sub a b):a<=b:=by
 have e:a ||| b=b:=by
  apply Nat.eq_of_testBit_eq;intro i;rw[Nat.testBit_or]
  cases ha:a.testBit i with
  | false=>simp
  | true=>rw[h i ha];rfl
 have:=Nat.left_le_or (n:=a) (m:=b);omega
def Up(s t:List Nat):Prop:=∀k,Sub (s.getD k 0) (t.getD k 0)
theorem xG(h:Up s t)(S:ByteArray)(N:Nat):Sub (bT S N s) (bT S N t):=by
 unfold bT;split
 ·exact h N
 ·exact Sub.refl _
theorem WE(h:Up s t)(q:St):Sub (uS q s) (uS q t):=Sub.or (Sub.or (Sub.or (Sub.or (Sub.refl _) (xG h _ _)) (xG h _ _)) (xG h _ _)) (xG h _ _)
theorem aCC(q:St)(sets:List Nat)(h:∀x∈sets,x<512):uS q sets<512:=Hy _ _ (Hy _ _ (Hy _ _ (Hy _ _ (MX _) (kZ _ _ _ h)) (kZ _ _ _ h)) (kZ _ _ _ h)) (kZ _ _ _ h)
def wI(xs:List Nat):Nat:=(xs.map fun x=>511-x).sum
theorem Js:∀(xs:List Nat) (i x y:Nat),xs[i]?=some x->x<y->y<512->wI (xs.set i y)<wI xs
 | [],i,x,y,h,_,_=>by simp at h
 | a::xs,0,x,y,h,h1,h2=>by
  simp at h;subst h;simp[wI];omega
 | a::xs,i+1,x,y,h,h1,h2=>by
  have:=Js xs i x y (by simpa using h) h1 h2;simp[wI]at this ⊢;omega
theorem WG(h:xs[i]?=some x):xs.getD i 0=x:=by rw[fM,h];rfl
theorem aEA(xs:List Nat)(i x y:Nat)(h:xs[i]?=some x)(hs:Sub x y):Up xs (xs.set i y):=by
 intro k;simp only[getD_eq_getElem?_getD,getElem?_set];by_cases e:i=k
 ·subst e;have hlt:i<xs.length:=by
   rcases iK i xs.length with h2 | h2
   ·exact h2
   ·rw[getElem?_eq_none h2]at h;cases h
  rw[h,aP rfl,aP hlt];exact hs
 ·rw[aU e];exact Sub.refl _
theorem Good.step{sets:List Nat}(h:Good aC sets)(hq:aC[i]?=some q)(hx:sets[i]?=some x)(hne:uS q sets≠x):Good aC (sets.set i (uS q sets))∧wI (sets.set i (uS q sets))<wI sets:=by
 have hs:Sub x (uS q sets):=by have:=h.inv i q hq;rw[WG hx]at this;exact this
 have hup:=aEA sets i x (uS q sets) hx hs;have hlt:=aCC q sets h.lt;refine⟨⟨by simp[h.len],?_,?_⟩,Js sets i x _ hx (by have:=hs.le;omega) hlt⟩
 ·intro y hy;rcases mem_or_eq_of_mem_set hy with h2 | h2
  ·exact h.lt y h2
  ·rw[h2];exact hlt
 ·intro k p hp;by_cases e:i=k
  ·subst e;have hl:i<sets.length:=by
    rcases iK i sets.length with h2 | h2
    ·exact h2
    ·rw[getElem?_eq_none h2]at hx;cases hx
   have e2:=dY (hp.symm.trans hq);subst e2;rw[WG (x:=uS p sets) (by rw[getElem?_set,aP rfl,aP hl])];exact WE hup p
  ·have e2:(sets.set i (uS q sets)).getD k 0=sets.getD k 0:=by simp only[getD_eq_getElem?_getD,getElem?_set];rw[aU e]
   rw[e2];exact(h.inv k p hp).trans (WE hup p)
def U8(w:World)(g:Nat):List Nat:=match w.heap[g]? with
 | some (.cells a _ _)=>a.toList.map fun v=>(intOf v).toNat
 | _=>[]
def iV(xs:List Nat):Array Value:=(xs.map fun(x:Nat)=>I x).toArray
theorem Jt{t:TypeId}{fr:Nat × Nat}(h:w.heap[g]?=some (.cells (iV xs) t fr)):U8 w g=xs:=by
 unfold U8;rw[h];simp[iV,intOf,Function.comp_def]
theorem Hz(xs:List Nat)(i y:Nat):(iV xs).setIfInBounds i (I y)=iV (xs.set i y):=by
 apply Array.ext';simp[iV,map_set]
theorem mG(xs:List Nat)(i x:Nat)(h:xs[i]?=some x):(iV xs)[i]?=some (I x):=by
 simp[iV,h]
theorem Ints.of_block(h:w.heap[g]?=some (.cells (iV xs) 3 (0,0)))(hl:xs.length<=200):Ints w (Jn g xs.length xs.length) xs:=by
 refine⟨by simp,.inr ⟨g,xs.length,iV xs,rfl,Nat.zero_le _,h,dH _,by unfold maxLen;omega,by simp[iV],?_⟩⟩;simp[iV];exact take_of_length_le (by simp)
theorem aID:(prog.info? 3).map (fun i=>(i.zero,i.size,i.bytes))=some (some (I 0),1,8):=by kernel_rfl
theorem Qc(n:Nat):madeCells #[I 0] n=iV (replicate n 0):=by
 apply Array.ext';simp[madeCells,iV,Nat.mod_one];exact eq_replicate_iff.2 ⟨by simp,fun b hb=>by obtain⟨_,_,rfl⟩:=mem_map.1 hb;rfl⟩
theorem iO(n:Nat)(hn:n<=200)(w:World):(Instr.makeSlice 95 (I n) (I n)).run prog w=.ok (Jn w.heap.size n n) (w.alloc (.cells (iV (replicate n 0)) 3)):=by
 rw[<-Qc];exact run_make_row' 95 3 (I 0) 8 underlying95 aID rfl .i64 .i64 n (by omega) (by omega) w
def bOf:Value->Nat
 | .bool true=>1
 | _=>0
theorem good_start(aC:List St):Good aC (replicate aC.length 0):=⟨by simp,fun x hx=>by rw[(mem_replicate.1 hx).2];omega,fun k q _=>by
  have e:(replicate aC.length 0).getD k 0=0:=by
   rw[fM,getElem?_replicate];split <;> rfl
  rw[e];exact Sub.zero _⟩
theorem IA(v:Value)(aC:List St)(w:World)(hst:Sts w v aC)(h0:0<aC.length)(hl:aC.length<=200)(hin:Within aC):J1 107 #[v] w fun e w'=>∃sets v',e=.returned v'∧Ints w' v' sets∧Good aC sets∧Fixed aC sets∧Below w.heap.size w w':=by
 obtain⟨g,cap,rfl,hg,hcap⟩:=hst.form h0;have hgs:=good_start aC;obtain⟨n,hn⟩:=eX aC.length;rw[<-hn]at h0 hl hcap hst hgs ⊢;have HN:=qH hn;have HG0:=qH hgs;have HIN:=qH hin;have hmk:=iO n hl;clear hn hgs hin;go_enter func107,ntmps107;go_wp2;clear hmk
 go_loopw [4] (fun gb wr=>∃(sets:List Nat) (b:Bool),gb=.bool b∧Good aC sets∧(b=false->Fixed aC sets)∧wr.heap[w.heap.size]?=some (.cells (iV sets) 3 (0,0))∧Below w.heap.size w wr)
  (fun gb wr=>2*wI (U8 wr w.heap.size)+bOf gb)
 case atStart=>exact⟨_,true,rfl,HG0.o,(fun h=>by cases h),heap_alloc_new w _,(Below.refl _ _).alloc (dH _) _⟩
 case round=>
  obtain⟨sets,b,rfl,hgood,hfix,hblk,hb⟩:=hrel;have aFO:=(Array.getElem?_eq_some_iff.1 hblk).1
  cases b with
  | false=>
   have HB:=qH hblk;have HF:=qH (hfix rfl);clear hblk hfix;go_wp2;go_ret;have hlen:=hgood.len;rw[<-HN.o]at hlen;refine⟨sets,_,rfl,?_,hgood,HF.o,hb⟩;have:=Ints.of_block HB.o (by omega);rw[hlen]at this;exact this
  | true=>
   have HB:=qH hblk;have HGd:=qH hgood;clear hblk hgood hfix;go_wp2
   go_loopw [4,14] (fun gb ii wx=>∃(s2:List Nat) (b:Bool) (i:Nat),i<=n∧ii=I i∧gb=.bool b∧Good aC s2∧wx.heap[w.heap.size]?=some (.cells (iV s2) 3 (0,0))∧Below w.heap.size w wx ∧(b=true->wI s2<wI sets)∧(b=false->s2=sets∧∀(k:Nat) (q:St),k<i->aC[k]?=some q->s2[k]?=some (uS q s2))) (fun _ ii _=>n-(intOf ii).toNat)
   case atStart=>exact⟨sets,false,0,by omega,rfl,rfl,HGd.o,HB.o,hb,(fun h=>by cases h),fun _=>⟨rfl,fun k q h=>by omega⟩⟩
   case round=>
    obtain⟨s2,b,i,hi,rfl,rfl,hgood,hblk,hb2,ht,hf⟩:=hrel;have hsz2:=(Array.getElem?_eq_some_iff.1 hblk).1;have hlen:s2.length=n:=by rw[HN.o];exact hgood.len
    have HG2:=qH hgood;have HT:=qH ht;have HF:=qH hf;have HB2:=qH hblk;clear hgood ht hf hblk;by_cases hlt:i<n
    ·obtain⟨q,hq⟩:∃q,aC[i]?=some q:=⟨aC[i]'(by have:=HN.o;omega),bG _⟩;obtain⟨S0,S1,S2,S3,S4,N0,N1,N2,N3,hS,a0,a1,a2,a3,a4,a5,a6,a7,a8⟩:=(hst.below hb2 (dH _)).nine i q hq;have hbg:bgA S0 S1 S2 S3 S4 N0 N1 N2 N3 s2 4=uS q s2:=by
      obtain⟨e1,e2,e3⟩:=hS;simp only[St.JP,St.nexts,map_cons,map_nil,List.cons.injEq,and_true]at e2 e3;obtain⟨f1,f2,f3,f4⟩:=e2;obtain⟨g1,g2,g3,g4⟩:=e3;rw[e1,f1,f2,f3,f4,g1,g2,g3,g4];rfl
     have hw4:N0<s2.length∧N1<s2.length∧N2<s2.length∧N3<s2.length:=by
      have hm:=HIN.o q (iI hq);rw[<-hS.2.2,<-HN.o,<-hlen]at hm;exact⟨hm _ (by simp),hm _ (by simp),hm _ (by simp),hm _ (by simp)⟩
     obtain⟨x,hx⟩:∃x,s2[i]?=some x:=⟨s2[i]'(by omega),bG _⟩;have hbelow:=fun o=>hb2.alloc (by omega) o
     have hints:∀o,Ints (wr.alloc o) (Jn w.heap.size n n) s2:=fun o=>by
      have:=Ints.of_block (w:=wr.alloc o) (g:=w.heap.size) (xs:=s2) (by rw[Below.heap_alloc _ _ _ (by omega)];exact HB2.o) (by omega);rw[hlen]at this;exact this
     have HQ:=qH hq;have HX:=qH hx;have HBG:=qH hbg;have hcall:=fun o=>BQ S0 S1 S2 S3 S4 N0 N1 N2 N3 _ s2 (wr.alloc o) (hints o) HG2.o.lt hw4.1 hw4.2.1 hw4.2.2.1 hw4.2.2.2 (by omega)
     simp only[hbg]at hcall;have Vh:Hd _:=hcall;have HBL:Hd _:=hbelow;clear hS hbg hw4 hq hx hbelow hints hcall;go_wp2_with (go_at_call 137;refine(Vh.o _).mono ?_;rintro e w1 ⟨rfl,hb3⟩;refine Hd.o ?_);refine Lib.hid ?_;have hblk3:w1.heap[w.heap.size]?=some (.cells (iV s2) 3 (0,0)):=by
      rw[hb3.block w.heap.size (by simp;omega),Below.heap_alloc _ _ _ (by omega)];exact HB2.o
     have hb4:=(HBL.o _).trans (hb3.mono (by simp;omega));have cx:=aO hblk3 i _ (mG s2 i x HX.o);have fx:=bZ hblk3 i;have HB3:=qH hblk3;clear hblk3 Vh HBL hb3 a0 a1 a2 a3 a4 a5 a6 a7 a8;obtain⟨y,hy⟩:=eX (uS q s2);rw[<-hy];have HY:=qH hy;clear hy;by_cases hne:y=x
     ·have aHc:((y:Int) != (x:Int))=false:=by simp[hne]
      have YZ:=qH hne;clear hne;go_wp2
      go_roundw
      case rel=>
       refine⟨s2,b,i+1,by omega,by go_num,rfl,HG2.o,HB3.o,hb4,HT.o,fun h=>⟨(HF.o h).1,fun k p hk hp=>?_⟩⟩;rcases iK k i with h2 | h2
       ·exact(HF.o h).2 k p h2 hp
       ·obtain rfl:k=i:=by omega
        have e2:=dY (hp.symm.trans HQ.o);rw[e2,HX.o,<-YZ.o,HY.o]
      case measure=>simp[intOf];omega
     ·have aHc:((y:Int) != (x:Int))=true:=by
       simp only[bne_iff_ne,ne_eq];omega
      have hgs:=HG2.o.step HQ.o HX.o (by rw[<-HY.o];exact hne);rw[<-HY.o]at hgs;have HGS:Hd _:=hgs;clear hgs hne;go_wp2
      go_roundw
      case rel=>
       refine⟨s2.set i y,true,i+1,by omega,by go_num,rfl,HGS.o.1,?_,hb4.setCell (by simp) _,fun _=>?_,fun h=>by cases h⟩
       ·rw[<-Hz];exact kL HB3.o _ _
       ·have h1:=HGS.o.2
        cases b with
        | true=>have:=HT.o rfl;omega
        | false=>rw[<-(HF.o rfl).1];exact h1
      case measure=>simp[intOf];omega
    ·have hin:i=n:=by omega
     have HE:Hd (b=false->Fixed aC s2):=fun h k q hq=>(HF.o h).2 k q (by
      have:=HN.o
      rcases iK k aC.length with h2 | h2
      ·omega
      ·rw[getElem?_eq_none h2]at hq;cases hq) hq
     have HM:Hd (2*wI s2+bOf (.bool b)<2*wI sets+1):=qH <| by
      cases b with
      | true=>have:=HT.o rfl;simp only[bOf];omega
      | false=>rw[(HF.o rfl).1];simp only[bOf];omega
     go_wp2
     go_roundw
     case rel=>exact⟨s2,b,rfl,HG2.o,HE.o,HB2.o,hb2⟩
     case measure=>
      rw[Jt HB2.o,Jt HB.o];exact HM.o
def uN(x:Nat):Bool:=((x:Int) != 256)&&(bits .and .i64 (x:Int) ((x:Int)-1)==0)
theorem Ju(x:Nat)(w:World)(hx:x<512):J1 108 #[I x] w fun e w'=>e=.returned (.bool (uN x))∧w'=w:=by
 by_cases h:((x:Int) != 256)=true
 ·have e:uN x=(bits .and .i64 (x:Int) ((x:Int)-1)==0):=by unfold uN;rw[h];rfl
  rw[e];go_enter func108,ntmps108;go_wp2;go_ret;exact⟨rfl,rfl⟩
 ·have hf:((x:Int) != 256)=false:=by simpa using h
  have e:uN x=false:=by unfold uN;rw[hf];rfl
  rw[e];clear h;go_enter func108,ntmps108;go_wp2;go_ret;exact⟨rfl,rfl⟩
theorem Qd(v:Value)(aC:List St)(w:World)(hst:Sts w v aC)(h0:0<aC.length)(hl:aC.length<=200)(hin:Within aC):J1 72 #[v] w fun e w'=>(∃sets,Good aC sets∧Fixed aC sets∧e=.returned (.bool (!(sets.any uN))))∧Below w.heap.size w w':=by
 have hcall:=IA v aC w hst h0 hl hin;clear hst hin;go_enter func72,ntmps72;go_wp2_with fail;refine hcall.mono ?_;rintro e w1 ⟨sets,v',rfl,hints,hgood,hfix,hb⟩;clear hcall;obtain⟨g,cap,rfl,hg,hcap⟩:=hints.form (by rw[hgood.len];exact h0);obtain⟨n,hn⟩:=eX sets.length;rw[<-hn]at hints hcap ⊢;have aHn:n<=200:=by rw[hn,hgood.len];exact hl
 have HN:=qH hn;have HG:=qH hgood;have HF:=qH hfix;clear hn hgood hfix;go_wp2
 go_loop [8] (fun ii=>∃i:Nat,i<=n∧ii=I i∧(sets.drop i).any uN=sets.any uN) (fun ii=>n-(intOf ii).toNat)
 case atStart=>exact⟨0,by omega,rfl,rfl⟩
 case round=>
  obtain⟨i,hi,rfl,hA⟩:=hrel;have HA:=qH hA;clear hA;by_cases hlt:i<n
  ·obtain⟨x,hx⟩:∃x,sets[i]?=some x:=⟨sets[i]'(by have:=HN.o;omega),bG _⟩;have cx:=hints.cell i x hx;have hx5:=HG.o.lt x (iI hx);have hdr:sets.drop i=x::sets.drop (i+1):=by
    have h:=HN.o;rw[kJ (by omega)];rw[bG (by omega)]at hx;rw[dY hx]
   have HA2:Hd ((uN x||(sets.drop (i+1)).any uN)=sets.any uN):=qH <| by
    rw[<-HA.o,hdr];rfl
   clear hdr hx HA
   cases ho:uN x with
   | true=>
    have HE:Hd (sets.any uN=true):=qH <| by
     rw[<-HA2.o,ho];rfl
    have U9:=Ju x;rw[ho]at U9;have aA4:Hd _:=U9;clear U9 ho HA2;go_wp2_with (go_at_call 108;refine(aA4.o _ hx5).mono ?_;rintro e w' ⟨rfl,rfl⟩);go_ret;exact⟨⟨sets,HG.o,HF.o,by rw[HE.o];rfl⟩,hb⟩
   | false=>
    have HE:Hd ((sets.drop (i+1)).any uN=sets.any uN):=qH <| by
     rw[<-HA2.o,ho];rfl
    have U9:=Ju x;rw[ho]at U9;have aA4:Hd _:=U9;clear U9 ho HA2;go_wp2_with (go_at_call 108;refine(aA4.o _ hx5).mono ?_;rintro e w' ⟨rfl,rfl⟩)
    go_round
    case rel=>exact⟨i+1,by omega,by go_num,HE.o⟩
    case measure=>simp[intOf];omega
  ·have HE:Hd (sets.any uN=false):=qH <| by
    rw[<-HA.o,drop_eq_nil_of_le (by have:=HN.o;omega)];rfl
   go_wp2;go_ret;exact⟨⟨sets,HG.o,HF.o,by rw[HE.o];rfl⟩,hb⟩
end Ld
namespace Ld
open Go.RowKit
attribute [local go_sem ↓] Go.wp_at_zero Go.wp_at_succ
theorem aIC:(prog.info? 102).map (fun i=>(i.zero,i.size,i.bytes))=some (some (.agg #[I 0,I 0,I 0,I 0]),4,32):=by kernel_rfl
structure R4 where
 a:Nat
 b:Nat
 c:Nat
 d:Nat
def R4.cells(r:R4):List Value:=[I r.a,I r.b,I r.c,I r.d]
def R4.all(r:R4):List Nat:=[r.a,r.b,r.c,r.d]
def wJ(rs:List R4):List Value:=rs.flatMap R4.cells
def Nx(w:World)(v:Value)(rs:List R4):Prop:=w.ownsRow 0 102 4 v rs.length (wJ rs)
theorem Nx.form{w:World}{v:Value}{rs:List R4}(h:Nx w v rs)(h0:0<rs.length):∃g cap,v=Jn g rs.length cap∧g<w.heap.size∧rs.length<=cap:=by
 rcases h.2 with ⟨_,h2⟩ | ⟨g,cap,cur,rfl,hg,hh,r⟩
 ·omega
 ·exact⟨g,cap,rfl,(Array.getElem?_eq_some_iff.1 hh).1,r.1⟩
def St.r4(q:St):R4:=⟨q.nx.getD 0 0,q.nx.getD 1 0,q.nx.getD 2 0,q.nx.getD 3 0⟩
theorem IB(v:Value)(aC:List St)(w:World)(hst:Sts w v aC)(h0:0<aC.length)(hl:aC.length<=200):J1 110 #[v] w fun e w'=>∃v',e=.returned v'∧Nx w' v' (aC.map St.r4)∧Below w.heap.size w w':=by
 obtain⟨i0,af,hz0,hz1,hz2⟩:=info_parts aIC;obtain⟨g,cap,rfl,hg,hcap⟩:=hst.form h0;have Qe:=fun(wx:World) (hb:Below w.heap.size w wx) (i:Nat) (q:St) (hq:aC[i]?=some q)=>(hst.below hb (dH _)).nine i q hq
 obtain⟨n,hn⟩:=eX aC.length;have hget:∀i,i<n->∃q,aC[i]?=some q:=fun i hi=>⟨aC[i]'(by omega),bG _⟩
 rw[<-hn]at h0 hl hcap hst ⊢;have WH:Hd _:=Qe;have Fj:Hd _:=hget;have HN:=qH hn;clear hn hst Qe hget;go_enter func110,ntmps110;go_wp2
 go_loopw [3,8] (fun vv ii wr=>∃(i:Nat),i<=n∧ii=I i∧wr.ownsRow w.heap.size 102 4 vv i (wJ ((aC.take i).map St.r4))∧Below w.heap.size w wr) (fun _ ii _=>n-(intOf ii).toNat)
 case atStart=>exact⟨0,by omega,rfl,by simpa [wJ] using World.ownsRow_nil _ _ _ _,Below.refl _ _⟩
 case round=>
  obtain⟨i,hi,rfl,hown,hb⟩:=hrel;obtain⟨a0,cap0,rfl⟩:=Qb hown;have hsz:=hb.size;by_cases hlt:i<n
  ·obtain⟨q,hq⟩:=Fj.o i hlt;obtain⟨S0,S1,S2,S3,S4,N0,N1,N2,N3,hS,c0,c1,c2,c3,c4,c5,c6,c7,c8⟩:=WH.o wr hb i q hq;have HC:Hd (wJ ((aC.take (i+1)).map St.r4)=wJ ((aC.take i).map St.r4)++[I N0,I N1,I N2,I N3]):=by
    show wJ ((aC.take (i+1)).map St.r4)=_;obtain⟨-,-,e3⟩:=hS;simp only[St.nexts,List.cons.injEq,and_true]at e3;obtain⟨g1,g2,g3,g4⟩:=e3;rw[take_add_one,hq,g1,g2,g3,g4];simp[wJ,R4.cells,St.r4]
   have hvb:=fun g (hg:(Value.slice a0 i cap0).ownBlock=some g)=>(hown.lt g hg).1
   have HB:=qH hb;clear hS hq hb;go_wp2_with (at_builtin;refine wpList_append_lies _ rfl _ _ 80 rfl w.heap.size 102 i0 _ 4 32 underlying80 af hz0 hz1 hz2 rfl (by omega) (.slice a0 i cap0) i (wJ ((aC.take i).map St.r4)) rfl ((hown.alloc _).alloc _) ⟨wr.heap.size+1,0,none⟩ 1 1 [I N0,I N1,I N2,I N3] rfl rfl ?c1 ?c2 (by omega) (by unfold maxLen;omega) (by omega) (by simp;omega) (wr.heap.size+2) (by simp) ?_)
   case c1=>exact World.news_of_block (cs:=#[I N0,I N1,I N2,I N3]) (t:=102) (fr:=(0,0)) (Hr wr _ _).2
   case c2=>intro u hu;simp at hu;rcases hu with rfl | rfl | rfl | rfl <;> rfl
   intro gg cap2 w3 hown3 hgrow hat fJ;have HB3:=qH (((HB.o.alloc (by omega) _).alloc (by simp;omega) _).grown hgrow (by simp;omega) (fun g hg=>by have:=hvb g hg;omega));have YX:Hd (w3.ownsRow w.heap.size 102 4 (Jn gg (i+1) cap2) (i+1) (wJ ((aC.take (i+1)).map St.r4))):=qH <| by
    rw[HC.o,map_take];exact hown3
   clear hown3 hgrow hat fJ hown af hz0 hz1 hz2 c0 c1 c2 c3 c4 c5 c6 c7 c8;go_wp2
   go_roundw
   case rel=>exact⟨i+1,by omega,by go_num,YX.o,HB3.o⟩
   case measure=>simp[intOf];omega
  ·obtain rfl:i=n:=by omega
   have HO:Hd (Nx wr (.slice a0 i cap0) (aC.map St.r4)):=by
    show wr.ownsRow 0 102 4 (.slice a0 i cap0) (aC.map St.r4).length (wJ (aC.map St.r4));have:=own_base hown (Nat.zero_le _);rw[take_of_length_le (by have:=HN.o;omega)]at this;rw[length_map,<-HN.o];exact this
   clear hown;go_wp2;go_ret;exact⟨_,rfl,HO.o,hb⟩
end Ld
namespace Ld
open Go.RowKit
theorem aIG:(prog.info? 9).map (fun i=>(i.zero,i.size,i.bytes))=some (some (.string ⟨#[]⟩),1,16):=by kernel_rfl
theorem aFT(A B C D:ByteArray)(w:World):(part 9 #[.string A,.string B,.string C,.string D] 0).run prog w=.ok (.string A) w:=by kernel_rfl
theorem aFU(A B C D:ByteArray)(w:World):(part 9 #[.string A,.string B,.string C,.string D] 1).run prog w=.ok (.string B) w:=by kernel_rfl
theorem aFV(A B C D:ByteArray)(w:World):(part 9 #[.string A,.string B,.string C,.string D] 2).run prog w=.ok (.string C) w:=by kernel_rfl
theorem aFW(A B C D:ByteArray)(w:World):(part 9 #[.string A,.string B,.string C,.string D] 3).run prog w=.ok (.string D) w:=by kernel_rfl
theorem aIM:prog.cellsOf 9=1:=by kernel_rfl
theorem aEB:range 4=[0,1,2,3]:=rfl
end Ld
end Go.Proofs.YtoebidlghdidoaaGreatDoor
