import Derived.Test.YtoebidlghdidoaaGreatDoorAZ
set_option maxHeartbeats 1600000
set_option maxRecDepth 100000
namespace Go.Proofs.YtoebidlghdidoaaGreatDoor
open M3 M2 Tryz List Go.RowKit
attribute [local go_sem ↓] Go.wp_at_zero Go.wp_at_succ
variable {c n:Nat} {b:Bool} {r:List UInt8 × List UInt8 × Nat} {v:M2.View} {x y:List UInt8} {W:M2.aA}
abbrev dV(T O E:ByteArray):M2.aA:=⟨T.data.toList,O.data.toList,E.data.toList⟩
theorem Ci(w:World)(T O E T' O' E':ByteArray)(hT:T.size<=10000000)(hO:O.size<=10000000)(hE:E.size<=10000000)(hT':T'.size<=10000000)(hO':O'.size<=10000000)(hE':E'.size<=10000000)(hM:M2.outgrow (dV T O E) (dV T' O' E')=some (c,b)):J1 147 #[.agg #[.string T,.string O,.string E],.agg #[.string T',.string O',.string E']] w fun e w'=>e=.returned (.tuple #[I c,.bool b])∧Mod No w w':=by
 unfold M2.outgrow at hM;simp only[bK]at hM;obtain⟨be,hbe⟩:∃be:Int,be=(T'.size:Int)+(E'.size:Int)-(T.size:Int)-(E.size:Int):=⟨_,rfl⟩;obtain⟨ga,hga⟩:∃ga:Int,ga=(O.size:Int)-(O'.size:Int):=⟨_,rfl⟩;rw[<-hbe,<-hga]at hM;have w1:IntKind.i64.wrap ((T'.size:Int)+(E'.size:Int))=(T'.size:Int)+(E'.size:Int):=by rw[IntKind.wrap_i64];omega
 have w2:IntKind.i64.wrap ((T'.size:Int)+(E'.size:Int)-(T.size:Int))=(T'.size:Int)+(E'.size:Int)-(T.size:Int):=by rw[IntKind.wrap_i64];omega
 have w3:IntKind.i64.wrap ((T'.size:Int)+(E'.size:Int)-(T.size:Int)-(E.size:Int))=be:=by rw[IntKind.wrap_i64];omega
 have w4:IntKind.i64.wrap ((O.size:Int)-(O'.size:Int))=ga:=by rw[IntKind.wrap_i64];omega
 have hbb:-100000000<=be∧be<=100000000:=by omega
 have hgb:-100000000<=ga∧ga<=100000000:=by omega
 have hb1:=hbb.1;have hb2:=hbb.2;have hg1:=hgb.1;have hg2:=hgb.2;clear hbe hga hbb hgb;by_cases hb:be<=0
 ·rw[aP (Or.inl hb)]at hM;obtain⟨rfl,rfl⟩:0=c∧decide (0<ga)=b:=by simpa using hM
  clear hM;go_enter func147,ntmps147;go_wp2;go_ret2;exact⟨rfl,((Mod.refl _ _).alloc _).alloc _⟩
 ·by_cases hg:ga<=0
  ·rw[aP (Or.inr hg)]at hM;obtain⟨rfl,rfl⟩:0=c∧decide (0<ga)=b:=by simpa using hM
   clear hM;go_enter func147,ntmps147;go_wp2;go_ret2;exact⟨rfl,((Mod.refl _ _).alloc _).alloc _⟩
  ·rw[aU (by omega)]at hM;obtain⟨hc,rfl⟩:((be+ga-1)/ga).toNat=c∧true=b:=by simpa using hM
   have w5:IntKind.i64.wrap (be+ga)=be+ga:=by rw[IntKind.wrap_i64];omega
   have w6:IntKind.i64.wrap (be+ga-1)=be+ga-1:=by rw[IntKind.wrap_i64];omega
   have hdiv:(be+ga-1).tdiv ga=(c:Int):=by
    rw[<-hc,Int.tdiv_eq_ediv_of_nonneg (by omega)];have:=Int.ediv_nonneg (a:=be+ga-1) (b:=ga) (by omega) (by omega);omega
   have aDF:(ga==0)=false:=by rw[beq_eq_false_iff_ne];omega
   have aHl:¬ga=0:=by omega
   have hcb:c<=300000000:=by
    have h1:=Int.ediv_le_self (a:=be+ga-1) ga (by omega);omega
   clear hM hc;go_enter func147,ntmps147;go_wp2;go_ret2;exact⟨rfl,((Mod.refl _ _).alloc _).alloc _⟩
theorem Cj(one other:M2.aA)(least size n i:Nat):iT one other least size (n+1) i=if Ba one i=Ba other i then iT one other least size n (i+1) else if i<least then (0,true) else ((i-least)/size+1,true):=rfl
theorem Xv(w:World)(T O E T' O' E':ByteArray)(hT:T.size<=10000000)(hO:O.size<=10000000)(hT':T'.size<=10000000)(hO':O'.size<=10000000)(hM:(if O.size=0 then (0,false) else iT (dV T O E) (dV T' O' E') (min T.size T'.size) O.size (max T.size T'.size+O.size) 0)=(c,b)):J1 146 #[.agg #[.string T,.string O,.string E],.agg #[.string T',.string O',.string E']] w fun e w'=>e=.returned (.tuple #[I c,.bool b])∧Mod No w w':=by
 by_cases h0:O.size=0
 ·rw[aP h0]at hM;obtain⟨rfl,rfl⟩:0=c∧false=b:=by simpa using hM
  have h0i:(O.size:Int)=0:=by omega
  clear hM;go_enter func146,ntmps146;go_wp2;go_ret2;exact⟨rfl,((Mod.refl _ _).alloc _).alloc _⟩
 ·rw[aU h0]at hM;obtain⟨le,hle⟩:=eX (min T.size T'.size);obtain⟨mo,hmo⟩:=eX (max T.size T'.size);rw[<-hle,<-hmo]at hM;have HM:=qH hM;have aIj:le<=10000000:=by omega
  have aIk:mo<=10000000:=by omega
  have h0i:((O.size:Int)==0)=false:=by rw[beq_eq_false_iff_ne];omega
  have h0j:¬(O.size:Int)=0:=by omega
  go_enter func146,ntmps146;by_cases hlt:T'.size<T.size
  ·obtain rfl:le=T'.size:=by omega
   obtain rfl:mo=T.size:=by omega
   have HIN:=qH hlt;have MN:(T'.size:Int)<T.size:=by omega
   clear hle hmo hM;go_wp2_with fail;have HW1:Hd (Mod No w ((w.alloc (.cells #[.string T,.string O,.string E] 255)).alloc (.cells #[.string T',.string O',.string E'] 255))∧aG ((w.alloc (.cells #[.string T,.string O,.string E] 255)).alloc (.cells #[.string T',.string O',.string E'] 255)) w.heap.size [.string T,.string O,.string E] 255∧aG ((w.alloc (.cells #[.string T,.string O,.string E] 255)).alloc (.cells #[.string T',.string O',.string E'] 255)) (w.heap.size+1) [.string T',.string O',.string E'] 255):=⟨((Mod.refl _ _).alloc _).alloc _,gq w _ _,fE w _ _⟩;generalize (w.alloc (.cells #[.string T,.string O,.string E] 255)).alloc (.cells #[.string T',.string O',.string E'] 255)=W1 at HW1 ⊢;go_loopg [9] (T.size+O.size) (fun gh v9 wr=>∃i:Nat,i<=T.size+O.size∧gh=T.size+O.size-i∧v9=I i∧iT (dV T O E) (dV T' O' E') T'.size O.size gh i=(c,b)∧Mod No w wr∧aG wr w.heap.size [.string T,.string O,.string E] 255∧aG wr (w.heap.size+1) [.string T',.string O',.string E'] 255)
   case atStart=>exact⟨0,by omega,by omega,rfl,HM.o,HW1.o⟩
   case round=>
    clear HM HW1;obtain⟨i,hin,hgk,rfl,hgo,hI⟩:=hrel;have HI:=qH hI;by_cases hi:i<T.size+O.size
    ·obtain⟨g,hg⟩:∃g,gk=g+1:=⟨T.size+O.size-(i+1),by omega⟩;rw[hg,Cj]at hgo;have UK:=ML wr T O E i hT hO (by omega);have H2:Hd (∀wx,J1 157 #[.agg #[.string T',.string O',.string E'],I i] wx fun e w'=>e=.returned (.int .u8 (Ba (dV T' O' E') i:Int))∧Mod No wx w'):=fun wx=>ML wx T' O' E' i hT' hO' (by omega)
     generalize Ba (dV T O E) i=X1 at UK hgo;generalize Ba (dV T' O' E') i=X2 at H2 hgo;have a0:=hI.2.1.cell 0 rfl;have a1:=hI.2.1.cell 1 rfl;have a2:=hI.2.1.cell 2 rfl;have hii:(i:Int)<T.size+(O.size:Int):=by omega
     have HG:Hd (g=T.size+O.size-(i+1)):=qH <| by omega
     clear hI hg;go_wp2_with fail;refine UK.mono ?_;rintro e w2 ⟨rfl,m2⟩;have hI2:=And.intro (HI.o.1.no m2) (And.intro (HI.o.2.1.mod m2 (fun x=>x)) (HI.o.2.2.mod m2 (fun x=>x)));have HI2:=qH hI2;clear UK m2 a0 a1 a2 HI;have a0:=hI2.2.2.cell 0 rfl;have a1:=hI2.2.2.cell 1 rfl;have a2:=hI2.2.2.cell 2 rfl;clear hI2;have aAN:=H2.o w2;go_wp2_with fail;refine aAN.mono ?_;rintro e w3 ⟨rfl,m3⟩;have HI3:=qH (And.intro (HI2.o.1.no m3) (And.intro (HI2.o.2.1.mod m3 (fun x=>x)) (HI2.o.2.2.mod m3 (fun x=>x))));clear aAN m3 a0 a1 a2 HI2 H2;by_cases hx:X1=X2
     ·rw[aP hx]at hgo;have Jg:=qH hgo;subst hx;clear hgo;go_wp2;go_roundg (T.size+O.size-(i+1))
      case measure=>omega
      case rel=>exact⟨i+1,by omega,rfl,by go_num,by rw[<-HG.o];exact Jg.o,HI3.o⟩
     ·rw[aU hx]at hgo;have hxx:((X2:Int)==(X1:Int))=false:=by rw[beq_eq_false_iff_ne];omega
      by_cases hil:i<T'.size
      ·rw[aP hil]at hgo;obtain⟨rfl,rfl⟩:0=c∧true=b:=by simpa using hgo
       have aEo:(i:Int)<T'.size:=by omega
       clear hgo;go_wp2;go_ret2;exact⟨rfl,HI3.o.1⟩
      ·rw[aU hil]at hgo;obtain⟨hc,rfl⟩:(i-T'.size)/O.size+1=c∧true=b:=by simpa using hgo
       have aEo:¬(i:Int)<T'.size:=by omega
       obtain⟨q,hq⟩:=eX ((i-T'.size)/O.size);have y7:q<=i-T'.size:=by rw[hq];exact Nat.div_le_self _ _
       have hw1:IntKind.i64.wrap ((i:Int)-(T'.size:Int))=((i-T'.size:Nat):Int):=by rw[IntKind.wrap_i64];omega
       have hw2:(((i-T'.size:Nat):Int)).tdiv (O.size:Int)=q:=by rw[hq];rfl
       rw[<-hq]at hc;have hq9:q<=100000000:=by omega
       clear y7;generalize i-T'.size=dd at hw1 hw2;have HC:=qH hc;clear hgo hq hc;go_wp2;go_ret2;exact⟨by rw[<-HC.o];rfl,HI3.o.1⟩
    ·have hi2:i=T.size+O.size:=by omega
     rw[hgk,hi2,Nat.sub_self]at hgo;obtain⟨rfl,rfl⟩:0=c∧false=b:=by simpa [iT] using hgo
     have hii:¬(i:Int)<T.size+(O.size:Int):=by omega
     clear hI hgo hgk hi2;go_wp2;go_ret2;exact⟨rfl,HI.o.1⟩
  ·obtain rfl:le=T.size:=by omega
   obtain rfl:mo=T'.size:=by omega
   have HIN:=qH hlt;have MN:¬(T'.size:Int)<T.size:=by omega
   clear hle hmo hM;go_wp2_with fail;have HW1:Hd (Mod No w ((w.alloc (.cells #[.string T,.string O,.string E] 255)).alloc (.cells #[.string T',.string O',.string E'] 255))∧aG ((w.alloc (.cells #[.string T,.string O,.string E] 255)).alloc (.cells #[.string T',.string O',.string E'] 255)) w.heap.size [.string T,.string O,.string E] 255∧aG ((w.alloc (.cells #[.string T,.string O,.string E] 255)).alloc (.cells #[.string T',.string O',.string E'] 255)) (w.heap.size+1) [.string T',.string O',.string E'] 255):=⟨((Mod.refl _ _).alloc _).alloc _,gq w _ _,fE w _ _⟩;generalize (w.alloc (.cells #[.string T,.string O,.string E] 255)).alloc (.cells #[.string T',.string O',.string E'] 255)=W1 at HW1 ⊢;go_loopg [9] (T'.size+O.size) (fun gh v9 wr=>∃i:Nat,i<=T'.size+O.size∧gh=T'.size+O.size-i∧v9=I i∧iT (dV T O E) (dV T' O' E') T.size O.size gh i=(c,b)∧Mod No w wr∧aG wr w.heap.size [.string T,.string O,.string E] 255∧aG wr (w.heap.size+1) [.string T',.string O',.string E'] 255)
   case atStart=>exact⟨0,by omega,by omega,rfl,HM.o,HW1.o⟩
   case round=>
    clear HM HW1;obtain⟨i,hin,hgk,rfl,hgo,hI⟩:=hrel;have HI:=qH hI;by_cases hi:i<T'.size+O.size
    ·obtain⟨g,hg⟩:∃g,gk=g+1:=⟨T'.size+O.size-(i+1),by omega⟩;rw[hg,Cj]at hgo;have UK:=ML wr T O E i hT hO (by omega);have H2:Hd (∀wx,J1 157 #[.agg #[.string T',.string O',.string E'],I i] wx fun e w'=>e=.returned (.int .u8 (Ba (dV T' O' E') i:Int))∧Mod No wx w'):=fun wx=>ML wx T' O' E' i hT' hO' (by omega)
     generalize Ba (dV T O E) i=X1 at UK hgo;generalize Ba (dV T' O' E') i=X2 at H2 hgo;have a0:=hI.2.1.cell 0 rfl;have a1:=hI.2.1.cell 1 rfl;have a2:=hI.2.1.cell 2 rfl;have hii:(i:Int)<T'.size+(O.size:Int):=by omega
     have HG:Hd (g=T'.size+O.size-(i+1)):=qH <| by omega
     clear hI hg;go_wp2_with fail;refine UK.mono ?_;rintro e w2 ⟨rfl,m2⟩;have hI2:=And.intro (HI.o.1.no m2) (And.intro (HI.o.2.1.mod m2 (fun x=>x)) (HI.o.2.2.mod m2 (fun x=>x)));have HI2:=qH hI2;clear UK m2 a0 a1 a2 HI;have a0:=hI2.2.2.cell 0 rfl;have a1:=hI2.2.2.cell 1 rfl;have a2:=hI2.2.2.cell 2 rfl;clear hI2;have aAN:=H2.o w2;go_wp2_with fail;refine aAN.mono ?_;rintro e w3 ⟨rfl,m3⟩;have HI3:=qH (And.intro (HI2.o.1.no m3) (And.intro (HI2.o.2.1.mod m3 (fun x=>x)) (HI2.o.2.2.mod m3 (fun x=>x))));clear aAN m3 a0 a1 a2 HI2 H2;by_cases hx:X1=X2
     ·rw[aP hx]at hgo;have Jg:=qH hgo;subst hx;clear hgo;go_wp2;go_roundg (T'.size+O.size-(i+1))
      case measure=>omega
      case rel=>exact⟨i+1,by omega,rfl,by go_num,by rw[<-HG.o];exact Jg.o,HI3.o⟩
     ·rw[aU hx]at hgo;have hxx:((X2:Int)==(X1:Int))=false:=by rw[beq_eq_false_iff_ne];omega
      by_cases hil:i<T.size
      ·rw[aP hil]at hgo;obtain⟨rfl,rfl⟩:0=c∧true=b:=by simpa using hgo
       have aEo:(i:Int)<T.size:=by omega
       clear hgo;go_wp2;go_ret2;exact⟨rfl,HI3.o.1⟩
      ·rw[aU hil]at hgo;obtain⟨hc,rfl⟩:(i-T.size)/O.size+1=c∧true=b:=by simpa using hgo
       have aEo:¬(i:Int)<T.size:=by omega
       obtain⟨q,hq⟩:=eX ((i-T.size)/O.size);have y7:q<=i-T.size:=by rw[hq];exact Nat.div_le_self _ _
       have hw1:IntKind.i64.wrap ((i:Int)-(T.size:Int))=((i-T.size:Nat):Int):=by rw[IntKind.wrap_i64];omega
       have hw2:(((i-T.size:Nat):Int)).tdiv (O.size:Int)=q:=by rw[hq];rfl
       rw[<-hq]at hc;have hq9:q<=100000000:=by omega
       clear y7;generalize i-T.size=dd at hw1 hw2;have HC:=qH hc;clear hgo hq hc;go_wp2;go_ret2;exact⟨by rw[<-HC.o];rfl,HI3.o.1⟩
    ·have hi2:i=T'.size+O.size:=by omega
     rw[hgk,hi2,Nat.sub_self]at hgo;obtain⟨rfl,rfl⟩:0=c∧false=b:=by simpa [iT] using hgo
     have hii:¬(i:Int)<T'.size+(O.size:Int):=by omega
     clear hI hgo hgk hi2;go_wp2;go_ret2;exact⟨rfl,HI.o.1⟩
theorem UL{T O E T' O' E':ByteArray}(h:M2.ahead' (dV T O E) (dV T' O' E')=some (c,b)):(O.size=O'.size∧(if O.size=0 then (0,false) else iT (dV T O E) (dV T' O' E') (min T.size T'.size) O.size (max T.size T'.size+O.size) 0)=(c,b))∨(¬O.size=O'.size∧O.size<O'.size∧M2.outgrow (dV T' O' E') (dV T O E)=some (c,b))∨(¬O.size=O'.size∧¬O.size<O'.size∧M2.outgrow (dV T O E) (dV T' O' E')=some (c,b)):=by
 unfold M2.ahead' at h;simp only[bK]at h;split at h
 ·rename_i he;refine Or.inl ⟨he,?_⟩;split at h
  ·rename_i h0;rw[aP h0];exact dY h
  ·rename_i h0;rw[aU h0];exact dY h
 ·rename_i he;split at h
  ·rename_i hl;exact Or.inr (Or.inl ⟨he,hl,h⟩)
  ·rename_i hl;exact Or.inr (Or.inr ⟨he,hl,h⟩)
theorem UM(w:World)(T O E T' O' E':ByteArray)(hT:T.size<=10000000)(hO:O.size<=10000000)(hE:E.size<=10000000)(hT':T'.size<=10000000)(hO':O'.size<=10000000)(hE':E'.size<=10000000)(hM:M2.ahead' (dV T O E) (dV T' O' E')=some (c,b)):J1 131 #[.agg #[.string T,.string O,.string E],.agg #[.string T',.string O',.string E']] w fun e w'=>e=.returned (.tuple #[I c,.bool b])∧Mod No w w':=by
 have xA:Hd (Mod No w ((w.alloc (.cells #[.string T,.string O,.string E] 255)).alloc (.cells #[.string T',.string O',.string E'] 255))):=((Mod.refl _ _).alloc _).alloc _;rcases UL hM with ⟨h1,h2⟩ | ⟨h1,h2,h3⟩ | ⟨h1,h2,h3⟩
 ·have H97:=qH fun wx=>Xv wx T O E T' O' E' hT hO hT' hO' h2
  have h1i:(O.size:Int)=O'.size:=by omega
  have h1b:((O.size:Int)==(O'.size:Int))=true:=by rw[h1i];simp
  clear hM h2 h1 h1i;go_enter func131,ntmps131;go_wp2_with fail;refine(H97.o _).mono ?_;rintro e w2 ⟨rfl,m2⟩;go_wp2;go_ret2;exact⟨rfl,xA.o.no m2⟩
 ·have H98:=qH fun wx=>Ci wx T' O' E' T O E hT' hO' hE' hT hO hE h3
  have h1b:((O.size:Int)==(O'.size:Int))=false:=by rw[beq_eq_false_iff_ne];omega
  have Rx:(O.size:Int)<O'.size:=by omega
  clear hM h3 h1 h2;go_enter func131,ntmps131;go_wp2_with fail;refine(H98.o _).mono ?_;rintro e w2 ⟨rfl,m2⟩;go_wp2;go_ret2;exact⟨rfl,xA.o.no m2⟩
 ·have H98:=qH fun wx=>Ci wx T O E T' O' E' hT hO hE hT' hO' hE' h3
  have h1b:((O.size:Int)==(O'.size:Int))=false:=by rw[beq_eq_false_iff_ne];omega
  have Rx:¬(O.size:Int)<O'.size:=by omega
  clear hM h3 h1 h2;go_enter func131,ntmps131;go_wp2_with fail;refine(H98.o _).mono ?_;rintro e w2 ⟨rfl,m2⟩;go_wp2;go_ret2;exact⟨rfl,xA.o.no m2⟩
theorem QX{x r:pY}(h:M3.settle (n+1) x=some r):(400<x.c∧x.x.length<=1000000000000∧x.y.length<=1000000∧x.c<=1000000∧M3.settle n { x with x:=x.x++x.y,c:=x.c-1 }=some r)∨(¬400<x.c∧x=r):=by
 rw[M3.settle]at h;split at h
 ·rename_i hc;split at h
  ·rename_i hb;exact Or.inl ⟨hc,hb.1,hb.2.1,hb.2.2,h⟩
  ·cases h
 ·rename_i hc;exact Or.inr ⟨hc,dY h⟩
def wiC(x:pY):List Value:=[.string ⟨x.x.toArray⟩,.string ⟨x.y.toArray⟩,.string ⟨x.z1.toArray⟩,.string ⟨x.z2.toArray⟩,I x.c]
def H8:pY:=⟨[],[],[],[],0⟩
theorem UN(w:World)(x:pY){r:pY}(hM:M3.settle 1000000 x=some r):J1 132 #[.agg (wiC x).toArray] w fun e w'=>e=.returned (.agg (wiC r).toArray)∧Mod No w w':=by
 have HM:=qH hM;clear hM;obtain⟨x1,x2,x3,x4,xc⟩:=x;unfold wiC;simp only;obtain⟨X1,hX1⟩:=eX (⟨x1.toArray⟩:ByteArray);obtain⟨X2,hX2⟩:=eX (⟨x2.toArray⟩:ByteArray);obtain⟨X3,hX3⟩:=eX (⟨x3.toArray⟩:ByteArray);obtain⟨X4,hX4⟩:=eX (⟨x4.toArray⟩:ByteArray);rw[<-hX1,<-hX2,<-hX3,<-hX4];have HX1:=qH hX1;have HX:=qH (a3 hX2 hX3 hX4);clear hX1 hX2 hX3 hX4;go_enter func132,ntmps132;go_wp2_with fail;have HW1:Hd (Mod No w ((w.alloc (.cells #[.string X1,.string X2,.string X3,.string X4,I xc] 40)).alloc (.cells #[.string ⟨#[]⟩,.string ⟨#[]⟩,.string ⟨#[]⟩,.string ⟨#[]⟩,I 0] 40))∧aG ((w.alloc (.cells #[.string X1,.string X2,.string X3,.string X4,I xc] 40)).alloc (.cells #[.string ⟨#[]⟩,.string ⟨#[]⟩,.string ⟨#[]⟩,.string ⟨#[]⟩,I 0] 40)) w.heap.size [.string X1,.string X2,.string X3,.string X4,I xc] 40∧aG ((w.alloc (.cells #[.string X1,.string X2,.string X3,.string X4,I xc] 40)).alloc (.cells #[.string ⟨#[]⟩,.string ⟨#[]⟩,.string ⟨#[]⟩,.string ⟨#[]⟩,I 0] 40)) (w.heap.size+1) [.string ⟨#[]⟩,.string ⟨#[]⟩,.string ⟨#[]⟩,.string ⟨#[]⟩,I 0] 40):=⟨((Mod.refl _ _).alloc _).alloc _,gq w _ _,fE w _ _⟩;generalize (w.alloc (.cells #[.string X1,.string X2,.string X3,.string X4,I xc] 40)).alloc (.cells #[.string ⟨#[]⟩,.string ⟨#[]⟩,.string ⟨#[]⟩,.string ⟨#[]⟩,I 0] 40)=W1 at HW1 ⊢;go_loopg [] 1000000 (fun gh wr=>∃(y1:List UInt8) (yc:Nat),M3.settle gh ⟨y1,x2,x3,x4,yc⟩=some r∧Mod No w wr∧aG wr w.heap.size [.string ⟨y1.toArray⟩,.string X2,.string X3,.string X4,I yc] 40∧aG wr (w.heap.size+1) [.string ⟨#[]⟩,.string ⟨#[]⟩,.string ⟨#[]⟩,.string ⟨#[]⟩,I 0] 40)
 case atStart=>exact⟨x1,xc,HM.o,HW1.o.1,by rw[<-HX1.o];exact HW1.o.2.1,HW1.o.2.2⟩
 case round=>
  clear HM HW1 HX1;obtain⟨y1,yc,hgo,hI⟩:=hrel;obtain⟨Y1,hY1⟩:=eX (⟨y1.toArray⟩:ByteArray);rw[<-hY1]at hI;have HY1:=qH hY1;have HI:=qH hI
  match gk,hgo with
  | 0,hgo=>cases hgo
  | f+1,hgo=>
   have a0:=hI.2.1.cell 0 rfl;have a1:=hI.2.1.cell 1 rfl;have a2:=hI.2.1.cell 2 rfl;have a3:=hI.2.1.cell 3 rfl;have a4:=hI.2.1.cell 4 rfl;rcases QX hgo with ⟨hc,hl1,hl2,hl3,hnx⟩ | ⟨hc,hr⟩
   ·simp only at hc hl1 hl2 hl3 hnx;have rM:Hd (M3.settle f ⟨y1++x2,x2,x3,x4,yc-1⟩=some r):=hnx;have hs1:Y1.size<=1000000000000:=by rw[hY1,aZ];exact hl1
    have hs2:X2.size<=1000000:=by rw[HX.o.1,aZ];exact hl2
    have Lj:¬9223372036854775807<Y1.size+X2.size:=by omega
    have hci:(400:Int)<(yc:Int):=by omega
    have f0:=hI.2.1.free 0;have f4:=hI.2.1.free 4;clear hI hgo hY1 hnx;go_wp2;go_roundg f
    case measure=>omega
    case rel=>
     refine⟨y1++x2,yc-1,rM.o,?_,?_,?_⟩
     ·exact(HI.o.1.setCell (a:=J w.heap.size 0) (fun e=>absurd e (Nat.lt_irrefl _)) _).setCell (a:=J w.heap.size 4) (fun e=>absurd e (Nat.lt_irrefl _)) _
     ·have h:=(HI.o.2.1.set 0 (.string (Y1++X2))).set 4 (I ((yc:Int)-1));have e1:((yc-1:Nat):Int)=(yc:Int)-1:=by omega
      rw[e1,<-oD,<-HY1.o,<-HX.o.1];exact h
     ·exact(HI.o.2.2.other (a:=J w.heap.size 0) (by show w.heap.size+1≠w.heap.size;omega) _).other (a:=J w.heap.size 4) (by show w.heap.size+1≠w.heap.size;omega) _
   ·have HR:=qH hr.symm;simp only at hc;have hci:¬(400:Int)<(yc:Int):=by omega
    have u0:=hI.2.2.cell 0 rfl;have u1:=hI.2.2.cell 1 rfl;have u2:=hI.2.2.cell 2 rfl;have u3:=hI.2.2.cell 3 rfl;have u4:=hI.2.2.cell 4 rfl;have f0:=hI.2.2.free 0;have f1:=hI.2.2.free 1;have f2:=hI.2.2.free 2;have f3:=hI.2.2.free 3;have f4:=hI.2.2.free 4;clear hI hgo hY1 hr;go_wp2;refine bodyPost_ret (v:=.agg #[.string Y1,.string X2,.string X3,.string X4,I yc]) (by simp[results,results132,go_sem,u0,u1,u2,u3,u4]) rfl ?_;refine⟨?_,?_⟩
    ·rw[HR.o,HY1.o,HX.o.1,HX.o.2.1,HX.o.2.2]
    ·exact((((HI.o.1.setCell (a:=⟨w.heap.size+1,0,none⟩) (fun e=>absurd e (by show ¬w.heap.size+1<w.heap.size;omega)) _).setCell (a:=⟨w.heap.size+1,1,none⟩) (fun e=>absurd e (by show ¬w.heap.size+1<w.heap.size;omega)) _).setCell (a:=⟨w.heap.size+1,2,none⟩) (fun e=>absurd e (by show ¬w.heap.size+1<w.heap.size;omega)) _).setCell (a:=⟨w.heap.size+1,3,none⟩) (fun e=>absurd e (by show ¬w.heap.size+1<w.heap.size;omega)) _).setCell (a:=⟨w.heap.size+1,4,none⟩) (fun e=>absurd e (by show ¬w.heap.size+1<w.heap.size;omega)) _
theorem aAO{k:Nat}(h:xu v x y k=some W):∃wd tc ro re,v.k.words[k]?=some wd∧x.length<=100000∧y.length<=100000∧wd.length<=100000∧k<v.k.ahead.length∧tc<=4∧qU v x k 0=some (W.tt,tc)∧qU v y k tc=some ro∧qU v wd 0 tc=some re∧W=⟨W.tt,ro.1,re.1⟩:=by
 unfold xu at h;split at h
 ·cases h
 ·rename_i wd hwd;split at h
  ·rename_i hb;split at h
   ·cases h
   ·rename_i tt tc htt;split at h
    ·rename_i htc;split at h
     ·rename_i ro re hro hre;cases h;exact⟨wd,tc,ro,re,hwd,hb.1,hb.2.1,hb.2.2.1,hb.2.2.2,htc,htt,hro,hre,rfl⟩
     ·cases h
    ·cases h
  ·cases h
theorem Cm(w:World)(v:M2.View)(base:Nat)(ka kw kh kd:Value)(hv:VP v base ka kw kh kd w)(x y:List UInt8)(k:Nat)(hM:xu v x y k=some W):J1 130 #[.agg #[ka,kw,kh,kd],.string ⟨x.toArray⟩,.string ⟨y.toArray⟩,I k] w fun e w'=>e=.returned (.agg #[.string ⟨W.tt.toArray⟩,.string ⟨W.ro.toArray⟩,.string ⟨W.re.toArray⟩])∧Mod No w w':=by
 obtain⟨wd,tc,ro,re,hwd,hx,hy,hwl,hk,htc,h1,h2,h3,hW⟩:=aAO hM;have aIU:=hv.n24;obtain⟨a1,n1,c1,e1⟩:=hv.ah.sl;obtain⟨a3,n3,c3,e3⟩:=hv.hi.sl;obtain⟨a4,n4,c4,e4⟩:=hv.de.sl;have hkw:=(bU hwd).1;obtain⟨gw,cw,e2,-,-⟩:=hv.wo.form (by omega);obtain⟨NW,hNW⟩:=eX v.k.words.length;rw[<-hNW]at e2 hkw;have cwd:=hv.wo;rw[e2]at cwd;have cwd:=fun(wx:World) (hm:Mod No w wx)=>Jf.cell (cwd.no hm) hwd
 have H1:Hd (∀wx,Mod No w wx->J1 125 #[.agg #[ka,kw,kh,kd],.string ⟨x.toArray⟩,I k,I ((0:Nat):Int)] wx fun e w'=>e=.returned (.tuple #[.string ⟨W.tt.toArray⟩,I tc])∧Mod No wx w'):=fun wx hm=>zy wx ka kw kh kd v hv.ok ⟨x.toArray⟩ k 0 hv.wo.sl hv.hi.sl (hv.ah.no hm) (hv.de.no hm) (by rw[aZ];exact hx) hk (by omega) h1
 have H2:Hd (∀wx,Mod No w wx->J1 125 #[.agg #[ka,kw,kh,kd],.string ⟨y.toArray⟩,I k,I tc] wx fun e w'=>e=.returned (.tuple #[.string ⟨ro.1.toArray⟩,I ro.2])∧Mod No wx w'):=fun wx hm=>zy wx ka kw kh kd v hv.ok ⟨y.toArray⟩ k tc hv.wo.sl hv.hi.sl (hv.ah.no hm) (hv.de.no hm) (by rw[aZ];exact hy) hk htc h2
 have H3:Hd (∀wx,Mod No w wx->J1 125 #[.agg #[ka,kw,kh,kd],.string ⟨wd.toArray⟩,I ((0:Nat):Int),I tc] wx fun e w'=>e=.returned (.tuple #[.string ⟨re.1.toArray⟩,I re.2])∧Mod No wx w'):=fun wx hm=>zy wx ka kw kh kd v hv.ok ⟨wd.toArray⟩ 0 tc hv.wo.sl hv.hi.sl (hv.ah.no hm) (hv.de.no hm) (by rw[aZ];exact hwl) (by omega) htc h3
 obtain⟨XX,hXX⟩:=eX (⟨x.toArray⟩:ByteArray);obtain⟨YY,hYY⟩:=eX (⟨y.toArray⟩:ByteArray);obtain⟨WD,Xr⟩:=eX (⟨wd.toArray⟩:ByteArray);obtain⟨TT,IQ⟩:=eX (⟨W.tt.toArray⟩:ByteArray);obtain⟨RO,hRO⟩:=eX (⟨ro.1.toArray⟩:ByteArray);obtain⟨RE,hRE⟩:=eX (⟨re.1.toArray⟩:ByteArray);have HW:Hd (TT=(⟨W.tt.toArray⟩:ByteArray)∧RO=(⟨W.ro.toArray⟩:ByteArray)∧RE=(⟨W.re.toArray⟩:ByteArray)):=⟨IQ,by rw[hW];exact hRO,by rw[hW];exact hRE⟩;rw[<-hXX,<-IQ]at H1;rw[<-hYY,<-hRO]at H2;rw[<-Xr,<-hRE]at H3;rw[e1,e2,e3,e4]at H1 H2 H3 ⊢;rw[<-hXX,<-hYY];have HC:Hd (∀wx,Mod No w wx->wx.cell? (J gw k)=some (.string WD)):=fun wx hm=>by rw[Xr];exact cwd wx hm
 have hki:(k:Int)<NW:=by omega
 have hk0:(0:Int)<=(k:Int):=by omega
 clear hv hM hwd hx hy hwl hk h1 h2 h3 hW e1 e2 e3 e4 cwd hXX hYY Xr IQ hRO hRE hNW;go_enter func130,ntmps130;go_wp2_with fail;have HW1:Hd (Mod No w ((w.alloc (.cells #[.slice a1 n1 c1,Jn gw NW cw,.slice a3 n3 c3,.slice a4 n4 c4] 86)).alloc (.cells #[.string ⟨#[]⟩,.string ⟨#[]⟩,.string ⟨#[]⟩] 255))∧aG ((w.alloc (.cells #[.slice a1 n1 c1,Jn gw NW cw,.slice a3 n3 c3,.slice a4 n4 c4] 86)).alloc (.cells #[.string ⟨#[]⟩,.string ⟨#[]⟩,.string ⟨#[]⟩] 255)) w.heap.size [.slice a1 n1 c1,Jn gw NW cw,.slice a3 n3 c3,.slice a4 n4 c4] 86∧aG ((w.alloc (.cells #[.slice a1 n1 c1,Jn gw NW cw,.slice a3 n3 c3,.slice a4 n4 c4] 86)).alloc (.cells #[.string ⟨#[]⟩,.string ⟨#[]⟩,.string ⟨#[]⟩] 255)) (w.heap.size+1) [.string ⟨#[]⟩,.string ⟨#[]⟩,.string ⟨#[]⟩] 255):=⟨((Mod.refl _ _).alloc _).alloc _,gq w _ _,fE w _ _⟩;refine(H1.o _ HW1.o.1).mono ?_;rintro e w2 ⟨rfl,m2⟩;have HW2:Hd (Mod No w w2∧aG w2 w.heap.size [.slice a1 n1 c1,Jn gw NW cw,.slice a3 n3 c3,.slice a4 n4 c4] 86∧aG w2 (w.heap.size+1) [.string ⟨#[]⟩,.string ⟨#[]⟩,.string ⟨#[]⟩] 255):=⟨HW1.o.1.no m2,HW1.o.2.1.mod m2 (fun x=>x),HW1.o.2.2.mod m2 (fun x=>x)⟩;clear HW1 m2;have b0:=HW2.o.2.1.cell 0 rfl;have b1:=HW2.o.2.1.cell 1 rfl;have b2:=HW2.o.2.1.cell 2 rfl;have b3:=HW2.o.2.1.cell 3 rfl;go_wp2_with fail;refine(H2.o _ HW2.o.1).mono ?_;rintro e w3 ⟨rfl,m3⟩;have HW3:Hd (Mod No w w3∧aG w3 w.heap.size [.slice a1 n1 c1,Jn gw NW cw,.slice a3 n3 c3,.slice a4 n4 c4] 86∧aG w3 (w.heap.size+1) [.string ⟨#[]⟩,.string ⟨#[]⟩,.string ⟨#[]⟩] 255):=⟨HW2.o.1.no m3,HW2.o.2.1.mod m3 (fun x=>x),HW2.o.2.2.mod m3 (fun x=>x)⟩;clear HW2 m3 b0 b1 b2 b3;have b0:=HW3.o.2.1.cell 0 rfl;have b1:=HW3.o.2.1.cell 1 rfl;have b2:=HW3.o.2.1.cell 2 rfl;have b3:=HW3.o.2.1.cell 3 rfl;have cK:=HC.o w3 HW3.o.1;go_wp2_with fail;go_region_with (go_at_call 125;refine(H3.o _ HW3.o.1.drew).mono ?_;rintro e w4 ⟨rfl,m4⟩);all_goals
  have iq:=qH (a2 (HW3.o.1.drew.no m4) (HW3.o.2.2.drew.mod m4 (fun x=>x)));clear b0 b1 b2 b3 cK m4 HW3;have u0:=iq.o.2.cell 0 rfl;have u1:=iq.o.2.cell 1 rfl;have u2:=iq.o.2.cell 2 rfl;have f0:=iq.o.2.free 0;have f1:=iq.o.2.free 1;have f2:=iq.o.2.free 2;go_wp2;refine bodyPost_ret (v:=.agg #[.string TT,.string RO,.string RE]) (by simp[results,results130,go_sem,u0,u1,u2]) rfl ?_;refine⟨by rw[HW.o.1,HW.o.2.1,HW.o.2.2],?_⟩;exact((iq.o.1.setCell (a:=⟨w.heap.size+1,0,none⟩) (fun e=>absurd e (by show ¬w.heap.size+1<w.heap.size;omega)) _).setCell (a:=⟨w.heap.size+1,1,none⟩) (fun e=>absurd e (by show ¬w.heap.size+1<w.heap.size;omega)) _).setCell (a:=⟨w.heap.size+1,2,none⟩) (fun e=>absurd e (by show ¬w.heap.size+1<w.heap.size;omega)) _
theorem QY{on:List Int}{steps:List M2.Stp}{met:List Nat}{wd:List UInt8}{fr:Nat}(h:bY on steps (n+1) met wd fr=some r):∃o,on[fr]?=some o∧((o<0∧r=(wd,[],fr))∨(∃k:Nat,o=(k:Int)∧((∃i,M3.idx fr met 0=some i∧r=(wd.take i,wd.drop i,fr))∨(M3.idx fr met 0=none∧∃s,steps[k]?=some s∧s.l<4∧fr<=1000000∧bY on steps n (met++[fr]) (wd++aT s.l) s.tt=some r)))):=by
 rw[bY]at h;split at h
 ·cases h
 ·rename_i o ho;refine⟨o,ho,?_⟩;split at h
  ·rename_i hc;exact Or.inl ⟨hc,(dY h).symm⟩
  ·rename_i hc;refine Or.inr ⟨o.toNat,by omega,?_⟩;split at h
   ·rename_i i hi;exact Or.inl ⟨i,hi,(dY h).symm⟩
   ·rename_i hi;refine Or.inr ⟨hi,?_⟩;split at h
    ·cases h
    ·rename_i s hs;split at h
     ·rename_i hb;exact⟨s,hs,hb.1,hb.2,h⟩
     ·cases h
theorem UO(w:World)(v:M2.View)(base S:Nat)(ka kw kh kd vp c5 vn vs vf vo fo la:Value)(R:M3.GG)(found:List fH)(last:List Nat)(h:SG v base S ka kw kh kd vp c5 vn vs vf vo fo la R found last w)(fr:Nat)(hM:bY R.on R.g.steps 100000 [] [] fr=some r):J1 103 #[Jx S 0,I fr] w fun e w'=>e=.returned (.tuple #[.string ⟨r.1.toArray⟩,.string ⟨r.2.1.toArray⟩,I r.2.2])∧Mod No w w':=by
 have HM:=qH hM;have HI:=qH h;clear h hM;go_enter func103,ntmps103;go_wp2_with fail;go_loopg [1,7,8] 100000 (fun gh v1 v7 v8 wr=>∃(fr:Nat) (met:List Nat) (wd:List UInt8),v1=I fr∧v8=.string ⟨wd.toArray⟩∧bY R.on R.g.steps gh met wd fr=some r∧wd.length=met.length∧met.length+gh<=100000∧Row dh wr v7 met∧(∀q,v7.ownBlock=some q->w.heap.size<=q)∧Mod No w wr)
 case atStart=>exact⟨fr,[],[],rfl,rfl,HM.o,rfl,by simp,Row.nil _ _,fun q hq=>(by cases hq),Mod.refl _ _⟩
 case round=>
  clear HM;obtain⟨fr,met,wd,rfl,rfl,hgo,hwl,hml,hrow,hfr,hmd⟩:=hrel;have hS:=HI.o.no hmd
  match gk,hgo with
  | 0,hgo=>cases hgo
  | f+1,hgo=>
   obtain⟨o,ho,hcase⟩:=QY hgo;have hfo:=(bU ho).1;obtain⟨NO,hNO⟩:=eX R.on.length;obtain⟨go',oc,Xl,-,-⟩:=hS.on.form (by omega);rw[<-hNO]at Xl hfo;obtain⟨WD,Xr⟩:=eX (⟨wd.toArray⟩:ByteArray);have XO:=qH Xr;have hWs:WD.size=wd.length:=by rw[Xr,aZ]
   rw[<-Xr];obtain⟨mn,hmn⟩:=eX met.length;obtain⟨mA,mC,evm,-,hown⟩:=hrow.open (n:=mn) hmn.symm;have hown:wr.ownsRow 0 3 1 (.slice mA mn mC) mn (met.flatMap dh.f):=hown;have HRW:Hd (Row dh wr (.slice mA mn mC) met∧met.length=mn∧(∀q,(Value.slice mA mn mC).ownBlock=some q->w.heap.size<=q)∧Mod No w wr):=⟨by rw[<-evm];exact hrow,hmn.symm,by rw[<-evm];exact hfr,hmd⟩;have k9:=hS.blk.cell 9 rfl;rw[Xl]at k9;have co:wr.cell? (J go' fr)=some (I o):=by have:=hS.on;rw[Xl]at this;exact D5.cell this ho
   have hfi:(fr:Int)<NO:=by omega
   have hf0:(0:Int)<=(fr:Int):=by omega
   rw[evm];rcases hcase with ⟨ho0,hr⟩ | ⟨k,hk,hcase⟩
   ·have HR:=qH hr;have ho1:¬(0:Int)<=o:=by omega
    clear hgo hrow hfr hS ho Xl Xr hown hNO hr evm hWs;go_wp2;refine bodyPost_ret (v:=.tuple #[.string WD,.string ⟨#[]⟩,I fr]) (by simp[results,results103,go_sem]) rfl ?_;exact⟨by rw[HR.o,XO.o],hmd⟩
   ·subst hk;have ho1:(0:Int)<=(k:Int):=by omega
    have qO:=qH hcase;have HO:=qH (a2 ho Xl);clear hgo hrow hfr hS ho Xl Xr hcase hNO evm;rw[hwl,<-hmn]at hWs;have aG5:mn<=100000:=by omega
    clear hmn;go_wp2_with fail;go_loopg [22] mn (fun gh v22 wx=>∃i:Nat,i<=mn∧gh=mn-i∧v22=I i∧M3.idx fr (met.drop i) i=M3.idx fr met 0∧wx=wr)
    case atStart=>exact⟨0,by omega,by omega,rfl,rfl,rfl⟩
    case round=>
     obtain⟨i,hin,hgi,rfl,hix,rfl⟩:=hrel;by_cases hlt:i<mn
     ·obtain⟨p,hp⟩:∃p,met[i]?=some p:=⟨met[i]'(by rw[HRW.o.2.1];exact hlt),bG _⟩;obtain⟨gm,hgm⟩:∃q,mA=some (J q 0):=by
       obtain⟨g2,c2,h2,-⟩:=HRW.o.1.form (by rw[HRW.o.2.1];omega);injection h2 with h2 _;exact⟨g2,h2⟩
      subst hgm;have cp:=dh.cell HRW.o.1 hp;have hdr:met.drop i=p::met.drop (i+1):=by
       have:=kJ (l:=met) (i:=i) (by rw[HRW.o.2.1];exact hlt);rw[this];congr 1;have h2:=bU hp;exact h2.2
      rw[hdr,M3.idx]at hix;have hii:(i:Int)<mn:=by omega
      by_cases hpf:p=fr
      ·rw[aP hpf]at hix;have HR:Hd (r=(wd.take i,wd.drop i,fr)):=by
        rcases qO.o with ⟨i2,h1,h2⟩ | ⟨h1,-⟩
        ·rw[h1]at hix;cases hix;exact h2
        ·rw[h1]at hix;cases hix
       subst hpf;have hiW:(i:Int)<=WD.size:=by omega
       have aIl:i<=WD.size:=by omega
       clear hix hdr hp hown;go_wp2_with fail;go_quiet (fail);go_wp2;refine bodyPost_ret (v:=.tuple #[.string (WD.extract 0 i),.string (WD.extract i mn),I p]) (by simp[results,results103,go_sem]) rfl ?_;refine⟨?_,hmd.drewN _⟩;rw[HR.o,XO.o,Gq,MK wd i mn (by rw[<-hWs,XO.o,aZ])]
      ·rw[aU hpf]at hix;have HIX:=qH hix;have hpb:((p:Int)==(fr:Int))=false:=by rw[beq_eq_false_iff_ne];omega
       clear hix hdr hp hown hpf;go_wp2;go_roundg (mn-(i+1))
       case measure=>omega
       case rel=>exact⟨i+1,by omega,rfl,by go_num,HIX.o,rfl⟩
     ·have hi2:i=mn:=by omega
      have e1:met.drop i=[]:=drop_of_length_le (by rw[HRW.o.2.1];omega);rw[e1]at hix;have hnone:M3.idx fr met 0=none:=by rw[<-hix];rfl
      obtain⟨s,hs,hsl,aIm,hnx⟩:∃s,R.g.steps[k]?=some s∧s.l<4∧fr<=1000000∧bY R.on R.g.steps f (met++[fr]) (wd++aT s.l) s.tt=some r:=by
       rcases qO.o with ⟨i2,h1,-⟩ | ⟨-,h2⟩
       ·rw[h1]at hnone;cases hnone
       ·exact h2
      have hii:¬(i:Int)<mn:=by omega
      have HS:=qH hs;have rM:=qH hnx;have hks:=(bU hs).1;obtain⟨i0,af,hz0,hz1,hz2⟩:=info_parts aID;obtain⟨l,hl⟩:=eX s.l;have HL:=qH hl;rw[<-hl]at hsl;have HLC:=qH (uG l hsl);have hl1:(l:Int)+1<=4:=by omega
      have hl2:(0:Int)<=(l:Int)+1:=by omega
      have hl5:(l:Int)<=l+1:=by omega
      have hl6:((l:Int)+1).toNat=l+1:=by omega
      have hwr:IntKind.i64.wrap ((l:Int)+1)=(l:Int)+1:=by rw[IntKind.wrap_i64];omega
      have Lj:¬9223372036854775807<WD.size+(min (l+1) 4-l):=by omega
      clear hix e1 hgi hi2 hnone hs hnx qO hl k9 co;rw[<-hWs]at aG5;have aHm:mn<=100000:=by omega
      go_wp2_with (at_builtin;refine wpList_append_lies _ rfl _ _ 95 rfl 0 3 i0 _ 1 8 underlying95 af hz0 hz1 hz2 rfl (by omega) (.slice mA mn mC) mn (met.flatMap dh.f) rfl (hown.alloc _) (J wr.heap.size 0) 1 1 [I fr] rfl rfl (World.news_of_block (cs:=#[I fr]) (t:=3) (fr:=(0,0)) (heap_alloc_new wr _)) (by intro u hu;simp at hu;rw[hu];rfl) (by omega) (by unfold maxLen;omega) (by omega) (by simp) (wr.heap.size+1) (by simp) ?_);intro gg cap2 w7 gV hgrow hat fJ;have vY:=jq HRW.o.2.1 rfl gV;have Cb:aN wr (.slice mA mn mC) (Jn gg (mn+1) cap2):=gW (H:=wr.heap.size+1) hat (by omega);have sH:=(hmd.alloc (.cells #[I fr] 3)).grown hgrow (fun g hg hgl=>by have:=HRW.o.2.2.1 g hg;omega);have HR7:Hd (Row dh w7 (Jn gg (mn+1) cap2) (met++[fr])∧(∀q,(Jn gg (mn+1) cap2).ownBlock=some q->w.heap.size<=q)∧Mod No w w7):=⟨vY,fun q hq=>by
       rcases Cb q hq with e | e
       ·exact HRW.o.2.2.1 q e
       ·have:=hmd.size;omega,sH⟩
      have HML:=qH HRW.o.2.1;have hS:=HI.o.no sH;obtain⟨SN,hSN⟩:=eX R.g.steps.length;obtain⟨gs,sC,evs,-,-⟩:=hS.sp.form (by omega);rw[<-hSN]at evs hks;have hrs:=hS.sp;rw[evs]at hrs;have hro:=hS.on;rw[HO.o.2]at hro;obtain⟨YA,hYA⟩:=eX (⟨s.s0.toArray⟩:ByteArray);obtain⟨YB,hYB⟩:=eX (⟨s.s1.toArray⟩:ByteArray);have k9:=hS.blk.cell 9 rfl;have K9:=hS.blk.aS 9 rfl;rw[HO.o.2]at k9 K9;have k7:=hS.blk.cell 7 rfl;have K7:=hS.blk.aS 7 rfl;rw[evs]at k7 K7;have co:=D5.cell hro HO.o.1;have CO:=fun o=>D5.cell (hro.alloc o) HO.o.1
      have x0:w7.cell? (J gs (k*5))=some (I s.fr):=hrs.cell k 0 HS.o rfl;have x1:w7.cell? (J gs (k*5+1))=some (I s.tt):=hrs.cell k 1 HS.o rfl;have x2:w7.cell? (J gs (k*5+2))=some (I l):=by rw[HL.o];exact hrs.cell k 2 HS.o rfl
      have x3:w7.cell? (J gs (k*5+3))=some (.string YA):=by rw[hYA];exact hrs.cell k 3 HS.o rfl
      have x4:w7.cell? (J gs (k*5+4))=some (.string YB):=by rw[hYB];exact hrs.cell k 4 HS.o rfl
      have X0:∀o,(w7.alloc o).cell? (J gs (k*5))=some (I s.fr):=fun o=>(hrs.alloc o).cell k 0 HS.o rfl
      have X1:∀o,(w7.alloc o).cell? (J gs (k*5+1))=some (I s.tt):=fun o=>(hrs.alloc o).cell k 1 HS.o rfl
      have X2:∀o,(w7.alloc o).cell? (J gs (k*5+2))=some (I l):=fun o=>by rw[HL.o];exact(hrs.alloc o).cell k 2 HS.o rfl
      have X3:∀o,(w7.alloc o).cell? (J gs (k*5+3))=some (.string YA):=fun o=>by rw[hYA];exact(hrs.alloc o).cell k 3 HS.o rfl
      have X4:∀o,(w7.alloc o).cell? (J gs (k*5+4))=some (.string YB):=fun o=>by rw[hYB];exact(hrs.alloc o).cell k 4 HS.o rfl
      have hki:(k:Int)<SN:=by omega
      clear vY Cb sH hS hrs hro hSN evs hYA hYB gV hgrow hat fJ hown af hz0 hz1 hz2 HRW hmd;go_wp2_with fail
      go_region
      all_goals
       have UQ:Hd (aG (w7.alloc (.cells #[I s.fr,I s.tt,I l,.string YA,.string YB] 225)).drew w7.heap.size [I s.fr,I s.tt,I l,.string YA,.string YB] 225∧Mod No w7 (w7.alloc (.cells #[I s.fr,I s.tt,I l,.string YA,.string YB] 225)).drew):=⟨heap_alloc_new w7 _,((Mod.refl _ _).alloc _).drew⟩;generalize (w7.alloc (.cells #[I s.fr,I s.tt,I l,.string YA,.string YB] 225)).drew=W8 at UQ ⊢;clear x0 x1 x2 x3 x4 X0 X1 X2 X3 X4 k7 k9 K7 K9 co CO;have y1:=UQ.o.1.cell 1 rfl;have y2:=UQ.o.1.cell 2 rfl;go_wp2;go_roundg f
       case measure=>omega
       case rel=>
        refine⟨s.tt,met++[fr],wd++aT s.l,rfl,?_,rM.o,?_,?_,HR7.o.1.no UQ.o.2,HR7.o.2.1,HR7.o.2.2.no UQ.o.2⟩
        ·rw[HLC.o,XO.o,oD,HL.o]
        ·simp[hwl,aT]
        ·simp;omega
theorem QZ{w:M2.aA}(h:xK w=true):w.tt.length<=10000000∧w.ro.length<=10000000∧w.re.length<=10000000:=by
 unfold xK at h;simp only[Bool.and_eq_true,decide_eq_true_eq]at h;exact h
theorem UR{pairs:List M2.Pair}{at':Nat}{r:Option pY}(h:M3.weigh v pairs x y at'=some r):∃p one other c b,pairs[at']?=some p∧xu v x y p.x=some one∧xu v x y p.y=some other∧xK one=true∧xK other=true∧M2.ahead' one other=some (c,b)∧((b=false∧r=none)∨(b=true∧∃z1 z2 s,v.k.words[p.x]?=some z1∧v.k.words[p.y]?=some z2∧M3.settle 1000000 ⟨x,y,z1,z2,c⟩=some s∧r=some s)):=by
 unfold M3.weigh at h;split at h
 ·cases h
 ·rename_i p hp;split at h
  ·rename_i one other h1 h2;split at h
   ·rename_i hok;rw[Bool.and_eq_true]at hok;split at h
    ·cases h
    ·rename_i c ha;exact⟨p,one,other,c,false,hp,h1,h2,hok.1,hok.2,ha,Or.inl ⟨rfl,(dY h).symm⟩⟩
    ·rename_i c ha;refine⟨p,one,other,c,true,hp,h1,h2,hok.1,hok.2,ha,Or.inr ⟨rfl,?_⟩⟩;split at h
     ·rename_i z1 z2 hz1 hz2;split at h
      ·cases h
      ·rename_i s hs;exact⟨z1,z2,s,hz1,hz2,hs,(dY h).symm⟩
     ·cases h
   ·cases h
  ·cases h
def wiR(r:Option pY):Value:=.tuple #[.agg (wiC (r.getD H8)).toArray,.bool r.isSome]
theorem Xw(w:World)(v:M2.View)(base S:Nat)(ka kw kh kd vp c5 vn vs vf vo fo la:Value)(R:M3.GG)(found:List fH)(last:List Nat)(h:SG v base S ka kw kh kd vp c5 vn vs vf vo fo la R found last w)(x y:List UInt8)(at':Nat){r:Option pY}(hM:M3.weigh v R.g.pairs x y at'=some r):J1 102 #[Jx S 0,.string ⟨x.toArray⟩,.string ⟨y.toArray⟩,I at'] w fun e w'=>e=.returned (wiR r)∧Mod No w w':=by
 obtain⟨p,one,other,c,b,hp,hone,hother,ho1,ho2,hah,hcase⟩:=UR hM;have hpl:=(bU hp).1;obtain⟨gp,pC,BN,-,-⟩:=h.pr.form (by omega);obtain⟨NP,hNP⟩:=eX R.g.pairs.length;rw[<-hNP]at BN hpl;have Xi:=h.pr;rw[BN]at Xi;obtain⟨a1,n1,c1,e1⟩:=h.vw.ah.sl;obtain⟨a2,n2,c2,e2⟩:=h.vw.wo.sl;obtain⟨a3,n3,c3,e3⟩:=h.vw.hi.sl;obtain⟨a4,n4,c4,e4⟩:=h.vw.de.sl;have HE:Hd (ka=.slice a1 n1 c1∧kw=.slice a2 n2 c2∧kh=.slice a3 n3 c3∧kd=.slice a4 n4 c4):=⟨e1,e2,e3,e4⟩;have UU:Hd (∀wx,Mod No w wx->J1 130 #[.agg #[.slice a1 n1 c1,.slice a2 n2 c2,.slice a3 n3 c3,.slice a4 n4 c4],.string ⟨x.toArray⟩,.string ⟨y.toArray⟩,I p.x] wx fun e w'=>e=.returned (.agg #[.string ⟨one.tt.toArray⟩,.string ⟨one.ro.toArray⟩,.string ⟨one.re.toArray⟩])∧Mod No wx w'):=fun wx hm=>by
  have:=Cm wx v base ka kw kh kd (h.vw.no hm) x y p.x hone
  rwa [e1,e2,e3,e4]at this
 have aJA:Hd (∀wx,Mod No w wx->J1 130 #[.agg #[.slice a1 n1 c1,.slice a2 n2 c2,.slice a3 n3 c3,.slice a4 n4 c4],.string ⟨x.toArray⟩,.string ⟨y.toArray⟩,I p.y] wx fun e w'=>e=.returned (.agg #[.string ⟨other.tt.toArray⟩,.string ⟨other.ro.toArray⟩,.string ⟨other.re.toArray⟩])∧Mod No wx w'):=fun wx hm=>by
  have:=Cm wx v base ka kw kh kd (h.vw.no hm) x y p.y hother
  rwa [e1,e2,e3,e4]at this
 have hk1:=QZ ho1;have hk2:=QZ ho2;have H81:=qH fun wx=>UM wx ⟨one.tt.toArray⟩ ⟨one.ro.toArray⟩ ⟨one.re.toArray⟩ ⟨other.tt.toArray⟩ ⟨other.ro.toArray⟩ ⟨other.re.toArray⟩ (by rw[aZ];exact hk1.1) (by rw[aZ];exact hk1.2.1) (by rw[aZ];exact hk1.2.2) (by rw[aZ];exact hk2.1) (by rw[aZ];exact hk2.2.1) (by rw[aZ];exact hk2.2.2) hah
 obtain⟨XX,hXX⟩:=eX (⟨x.toArray⟩:ByteArray);obtain⟨YY,hYY⟩:=eX (⟨y.toArray⟩:ByteArray);rw[<-hXX,<-hYY]at UU aJA ⊢;generalize (⟨one.tt.toArray⟩:ByteArray)=T1 at UU H81;generalize (⟨one.ro.toArray⟩:ByteArray)=O1 at UU H81;generalize (⟨one.re.toArray⟩:ByteArray)=E1 at UU H81;generalize (⟨other.tt.toArray⟩:ByteArray)=T2 at aJA H81;generalize (⟨other.ro.toArray⟩:ByteArray)=O2 at aJA H81;generalize (⟨other.re.toArray⟩:ByteArray)=E2 at aJA H81;have HX:Hd (XX=(⟨x.toArray⟩:ByteArray)∧YY=(⟨y.toArray⟩:ByteArray)):=⟨hXX,hYY⟩;have HI:=qH h;have qO:=qH hcase;have k4:=fun o=>h.blk.aS (w:=w) 4 rfl o
 rw[BN]at k4;have P0:∀o,(w.alloc o).cell? (J gp (at'*4))=some (I p.x):=fun o=>(Xi.alloc o).cell at' 0 hp rfl
 have P1:∀o,(w.alloc o).cell? (J gp (at'*4+1))=some (I p.s):=fun o=>(Xi.alloc o).cell at' 1 hp rfl
 have P2:∀o,(w.alloc o).cell? (J gp (at'*4+2))=some (I p.y):=fun o=>(Xi.alloc o).cell at' 2 hp rfl
 have P3:∀o,(w.alloc o).cell? (J gp (at'*4+3))=some (I p.t):=fun o=>(Xi.alloc o).cell at' 3 hp rfl
 have hai:(at':Int)<NP:=by omega
 have ha0:(0:Int)<=(at':Int):=by omega
 clear h hM hp hone hother ho1 ho2 hah hcase BN hNP Xi e1 e2 e3 e4 hk1 hk2 hXX hYY;go_enter func102,ntmps102;go_wp2_with fail;have HW1:Hd (SG v base S ka kw kh kd vp c5 vn vs vf vo fo la R found last ((w.alloc (.cells #[.string ⟨#[]⟩,.string ⟨#[]⟩,.string ⟨#[]⟩,.string ⟨#[]⟩,I 0] 40)).alloc (.cells #[I p.x,I p.s,I p.y,I p.t] 214))∧aG ((w.alloc (.cells #[.string ⟨#[]⟩,.string ⟨#[]⟩,.string ⟨#[]⟩,.string ⟨#[]⟩,I 0] 40)).alloc (.cells #[I p.x,I p.s,I p.y,I p.t] 214)) w.heap.size [.string ⟨#[]⟩,.string ⟨#[]⟩,.string ⟨#[]⟩,.string ⟨#[]⟩,I 0] 40∧aG ((w.alloc (.cells #[.string ⟨#[]⟩,.string ⟨#[]⟩,.string ⟨#[]⟩,.string ⟨#[]⟩,I 0] 40)).alloc (.cells #[I p.x,I p.s,I p.y,I p.t] 214)) (w.heap.size+1) [I p.x,I p.s,I p.y,I p.t] 214∧Mod No w ((w.alloc (.cells #[.string ⟨#[]⟩,.string ⟨#[]⟩,.string ⟨#[]⟩,.string ⟨#[]⟩,I 0] 40)).alloc (.cells #[I p.x,I p.s,I p.y,I p.t] 214))):=⟨HI.o.no (((Mod.refl _ _).alloc _).alloc _),gq w _ _,fE w _ _,((Mod.refl _ _).alloc _).alloc _⟩;generalize ((w.alloc (.cells #[.string ⟨#[]⟩,.string ⟨#[]⟩,.string ⟨#[]⟩,.string ⟨#[]⟩,I 0] 40)).alloc (.cells #[I p.x,I p.s,I p.y,I p.t] 214))=W1 at HW1 ⊢;clear HI k4 P0 P1 P2 P3;have k0:=HW1.o.1.blk.cell 0 rfl;have k1:=HW1.o.1.blk.cell 1 rfl;have k2:=HW1.o.1.blk.cell 2 rfl;have k3:=HW1.o.1.blk.cell 3 rfl;have K0:=HW1.o.1.blk.aS 0 rfl;have K1:=HW1.o.1.blk.aS 1 rfl;have K2:=HW1.o.1.blk.aS 2 rfl;have K3:=HW1.o.1.blk.aS 3 rfl;rw[HE.o.1]at k0 K0;rw[HE.o.2.1]at k1 K1;rw[HE.o.2.2.1]at k2 K2;rw[HE.o.2.2.2]at k3 K3;have q0:=HW1.o.2.2.1.cell 0 rfl;have Q0:=HW1.o.2.2.1.aS 0 rfl;go_cut [11] from 24 to 33 (fun sl wc=>∃P,sl=Jx P 0∧aG wc P [.string T1,.string O1,.string E1] 255∧Mod No W1 wc)
 case first=>
  go_region_with (first | (go_at_call 130;refine(UU.o _ (HW1.o.2.2.2.no ((Mod.refl _ _).drew.alloc _))).mono ?_;rintro e wA ⟨rfl,mA⟩;have zB:aG wA W1.heap.size [.string ⟨#[]⟩,.string ⟨#[]⟩,.string ⟨#[]⟩] 255:=aG.mod (aG.new W1.drew [.string ⟨#[]⟩,.string ⟨#[]⟩,.string ⟨#[]⟩] 255) mA (fun x=>x);have z0:=zB.cell 0 rfl;have z1:=zB.cell 1 rfl;have z2:=zB.cell 2 rfl;have g0:=zB.free 0;have g1:=zB.free 1;have g2:=zB.free 2) | (go_at_call 130;refine(UU.o _ (HW1.o.2.2.2.no (Mod.refl _ _).drew)).mono ?_;rintro e wA ⟨rfl,mA⟩));all_goals (try go_wp2_with fail)
  all_goals go_meet
  all_goals first
   | exact⟨_,rfl,heap_alloc_new wA _,((Mod.refl _ _).drew.no mA).alloc _⟩
   | exact⟨_,rfl,((zB.set 0 _).set 1 _).set 2 _,(((((Mod.refl _ _).drew.alloc _).no mA).setCell (a:=J W1.heap.size 0) (fun e=>absurd e (Nat.lt_irrefl _)) _).setCell (a:=J W1.heap.size 1) (fun e=>absurd e (Nat.lt_irrefl _)) _).setCell (a:=J W1.heap.size 2) (fun e=>absurd e (Nat.lt_irrefl _)) _⟩
 case rest=>
 obtain⟨PA,rfl,hPA,mc⟩:=hcut;have HW2:Hd (SG v base S ka kw kh kd vp c5 vn vs vf vo fo la R found last wc∧aG wc w.heap.size [.string ⟨#[]⟩,.string ⟨#[]⟩,.string ⟨#[]⟩,.string ⟨#[]⟩,I 0] 40∧aG wc (w.heap.size+1) [I p.x,I p.s,I p.y,I p.t] 214∧Mod No w wc):=⟨HW1.o.1.no mc,HW1.o.2.1.mod mc (fun x=>x),HW1.o.2.2.1.mod mc (fun x=>x),HW1.o.2.2.2.no mc⟩;have HPA:=qH hPA;clear HW1 k0 k1 k2 k3 K0 K1 K2 K3 q0 Q0 mc hPA UU;have HWC:Hd (∃W,W=wc):=⟨_,rfl⟩;obtain⟨W2,hW2⟩:=HWC.o;rw[<-hW2]at HW2 HPA ⊢;clear hW2 HWC;have k0:=HW2.o.1.blk.cell 0 rfl;have k1:=HW2.o.1.blk.cell 1 rfl;have k2:=HW2.o.1.blk.cell 2 rfl;have k3:=HW2.o.1.blk.cell 3 rfl;have K0:=HW2.o.1.blk.aS 0 rfl;have K1:=HW2.o.1.blk.aS 1 rfl;have K2:=HW2.o.1.blk.aS 2 rfl;have K3:=HW2.o.1.blk.aS 3 rfl;rw[HE.o.1]at k0 K0;rw[HE.o.2.1]at k1 K1;rw[HE.o.2.2.1]at k2 K2;rw[HE.o.2.2.2]at k3 K3;have q0:=HW2.o.2.2.1.cell 2 rfl;have Q0:=HW2.o.2.2.1.aS 2 rfl;go_wp2_with fail;go_cut [12] from 34 to 43 (fun sl wc=>∃P,sl=Jx P 0∧aG wc P [.string T2,.string O2,.string E2] 255∧Mod No W2 wc)
 case first=>
  go_region_with (first | (go_at_call 130;refine(aJA.o _ (HW2.o.2.2.2.no ((Mod.refl _ _).drew.alloc _))).mono ?_;rintro e wA ⟨rfl,mA⟩;have zB:aG wA W2.heap.size [.string ⟨#[]⟩,.string ⟨#[]⟩,.string ⟨#[]⟩] 255:=aG.mod (aG.new W2.drew [.string ⟨#[]⟩,.string ⟨#[]⟩,.string ⟨#[]⟩] 255) mA (fun x=>x);have z0:=zB.cell 0 rfl;have z1:=zB.cell 1 rfl;have z2:=zB.cell 2 rfl;have g0:=zB.free 0;have g1:=zB.free 1;have g2:=zB.free 2) | (go_at_call 130;refine(aJA.o _ (HW2.o.2.2.2.no (Mod.refl _ _).drew)).mono ?_;rintro e wA ⟨rfl,mA⟩));all_goals (try go_wp2_with fail)
  all_goals go_meet
  all_goals first
   | exact⟨_,rfl,heap_alloc_new wA _,((Mod.refl _ _).drew.no mA).alloc _⟩
   | exact⟨_,rfl,((zB.set 0 _).set 1 _).set 2 _,(((((Mod.refl _ _).drew.alloc _).no mA).setCell (a:=J W2.heap.size 0) (fun e=>absurd e (Nat.lt_irrefl _)) _).setCell (a:=J W2.heap.size 1) (fun e=>absurd e (Nat.lt_irrefl _)) _).setCell (a:=J W2.heap.size 2) (fun e=>absurd e (Nat.lt_irrefl _)) _⟩
 case rest=>
 obtain⟨PB,rfl,hPB,mc⟩:=hcut;have HW3:Hd ((SG v base S ka kw kh kd vp c5 vn vs vf vo fo la R found last wc∧aG wc w.heap.size [.string ⟨#[]⟩,.string ⟨#[]⟩,.string ⟨#[]⟩,.string ⟨#[]⟩,I 0] 40∧aG wc (w.heap.size+1) [I p.x,I p.s,I p.y,I p.t] 214∧Mod No w wc)∧aG wc PA [.string T1,.string O1,.string E1] 255∧aG wc PB [.string T2,.string O2,.string E2] 255):=⟨⟨HW2.o.1.no mc,HW2.o.2.1.mod mc (fun x=>x),HW2.o.2.2.1.mod mc (fun x=>x),HW2.o.2.2.2.no mc⟩,HPA.o.mod mc (fun x=>x),hPB⟩;clear HW2 k0 k1 k2 k3 K0 K1 K2 K3 q0 Q0 mc hPB aJA HPA;have a0:=HW3.o.2.1.cell 0 rfl;have a1':=HW3.o.2.1.cell 1 rfl;have a2':=HW3.o.2.1.cell 2 rfl;have b0:=HW3.o.2.2.cell 0 rfl;have b1:=HW3.o.2.2.cell 1 rfl;have b2:=HW3.o.2.2.cell 2 rfl;go_wp2_with fail;refine(H81.o _).mono ?_;rintro e w4 ⟨rfl,m4⟩;have iq:Hd (SG v base S ka kw kh kd vp c5 vn vs vf vo fo la R found last w4∧aG w4 w.heap.size [.string ⟨#[]⟩,.string ⟨#[]⟩,.string ⟨#[]⟩,.string ⟨#[]⟩,I 0] 40∧aG w4 (w.heap.size+1) [I p.x,I p.s,I p.y,I p.t] 214∧Mod No w w4):=⟨HW3.o.1.1.no m4,HW3.o.1.2.1.mod m4 (fun x=>x),HW3.o.1.2.2.1.mod m4 (fun x=>x),HW3.o.1.2.2.2.no m4⟩;clear HW3 m4 a0 a1' a2' b0 b1 b2 H81;rcases qO.o with ⟨rfl,hr⟩ | ⟨rfl,z1,z2,sr,hz1,hz2,hst,hr⟩
 ·have HR:=qH hr;clear hr qO;have u0:=iq.o.2.1.cell 0 rfl;have f0:=iq.o.2.1.free 0;have u1:=iq.o.2.1.cell 1 rfl;have f1:=iq.o.2.1.free 1;have u2:=iq.o.2.1.cell 2 rfl;have f2:=iq.o.2.1.free 2;have u3:=iq.o.2.1.cell 3 rfl;have f3:=iq.o.2.1.free 3;have u4:=iq.o.2.1.cell 4 rfl;have f4:=iq.o.2.1.free 4;go_wp2;refine bodyPost_ret (v:=.tuple #[.agg #[.string ⟨#[]⟩,.string ⟨#[]⟩,.string ⟨#[]⟩,.string ⟨#[]⟩,I 0],.bool false]) (by simp[results,results102,go_sem,u0,u1,u2,u3,u4]) rfl ?_;exact⟨by rw[HR.o];rfl,(((((iq.o.2.2.2.setCell (a:=J w.heap.size 0) (fun e=>absurd e (Nat.lt_irrefl _)) _).setCell (a:=J w.heap.size 1) (fun e=>absurd e (Nat.lt_irrefl _)) _).setCell (a:=J w.heap.size 2) (fun e=>absurd e (Nat.lt_irrefl _)) _).setCell (a:=J w.heap.size 3) (fun e=>absurd e (Nat.lt_irrefl _)) _).setCell (a:=J w.heap.size 4) (fun e=>absurd e (Nat.lt_irrefl _)) _)⟩
 ·have HR:=qH hr;have hw1:=(bU hz1).1;have hw2:=(bU hz2).1;obtain⟨NW,hNW⟩:=eX v.k.words.length;have hrw:=iq.o.1.vw.wo;obtain⟨gw,cw,ew,-,-⟩:=hrw.form (by omega);rw[<-hNW]at ew hw1 hw2;rw[ew]at hrw;have ew2:Value.slice a2 n2 c2=Jn gw NW cw:=by rw[<-HE.o.2.1];exact ew
  injection ew2 with ew2 ew3 ew4;subst ew2;subst ew3;subst ew4;have k1:=iq.o.1.blk.cell 1 rfl;rw[HE.o.2.1]at k1;obtain⟨Z1,hZ1⟩:=eX (⟨z1.toArray⟩:ByteArray);obtain⟨Z2,hZ2⟩:=eX (⟨z2.toArray⟩:ByteArray);have y1:w4.cell? (J gw p.x)=some (.string Z1):=by rw[hZ1];exact Jf.cell hrw hz1
  have y2:w4.cell? (J gw p.y)=some (.string Z2):=by rw[hZ2];exact Jf.cell hrw hz2
  have Y1:∀o,(w4.alloc o).cell? (J gw p.x)=some (.string Z1):=fun o=>by rw[hZ1];exact Jf.cell (hrw.alloc o) hz1
  have Y2:∀o,(w4.alloc o).cell? (J gw p.y)=some (.string Z2):=fun o=>by rw[hZ2];exact Jf.cell (hrw.alloc o) hz2
  have q0:=iq.o.2.2.1.cell 0 rfl;have Q0:=iq.o.2.2.1.aS 0 rfl;have q2:=iq.o.2.2.1.cell 2 rfl;have Q2:=iq.o.2.2.1.aS 2 rfl;have aIn:(p.x:Int)<n2:=by omega
  have aIo:(p.y:Int)<n2:=by omega
  have aIp:(0:Int)<=(p.x:Int):=by omega
  have aIq:(0:Int)<=(p.y:Int):=by omega
  have H82:Hd (∀wx,J1 132 #[.agg #[.string XX,.string YY,.string Z1,.string Z2,I c]] wx fun e w'=>e=.returned (.agg #[.string ⟨sr.x.toArray⟩,.string ⟨sr.y.toArray⟩,.string ⟨sr.z1.toArray⟩,.string ⟨sr.z2.toArray⟩,I sr.c])∧Mod No wx w'):=fun wx=>by
   have:=UN wx ⟨x,y,z1,z2,c⟩ hst;rw[HX.o.1,HX.o.2,hZ1,hZ2];exact this
  obtain⟨S1,hS1⟩:=eX (⟨sr.x.toArray⟩:ByteArray);obtain⟨S2,hS2⟩:=eX (⟨sr.y.toArray⟩:ByteArray);obtain⟨S3,hS3⟩:=eX (⟨sr.z1.toArray⟩:ByteArray);obtain⟨S4,hS4⟩:=eX (⟨sr.z2.toArray⟩:ByteArray);rw[<-hS1,<-hS2,<-hS3,<-hS4]at H82;have Gp:Hd (S1=(⟨sr.x.toArray⟩:ByteArray)∧S2=(⟨sr.y.toArray⟩:ByteArray)∧S3=(⟨sr.z1.toArray⟩:ByteArray)∧S4=(⟨sr.z2.toArray⟩:ByteArray)):=⟨hS1,hS2,hS3,hS4⟩;clear hr qO hz1 hz2 hst hNW ew hrw hZ1 hZ2 hS1 hS2 hS3 hS4;go_wp2_with fail
  go_region
  all_goals
   have UQ:Hd (aG (w4.alloc (.cells #[.string XX,.string YY,.string Z1,.string Z2,I c] 40)).drew w4.heap.size [.string XX,.string YY,.string Z1,.string Z2,I c] 40∧aG (w4.alloc (.cells #[.string XX,.string YY,.string Z1,.string Z2,I c] 40)).drew w.heap.size [.string ⟨#[]⟩,.string ⟨#[]⟩,.string ⟨#[]⟩,.string ⟨#[]⟩,I 0] 40∧Mod No w (w4.alloc (.cells #[.string XX,.string YY,.string Z1,.string Z2,I c] 40)).drew):=⟨heap_alloc_new w4 _,(iq.o.2.1.alloc _).drew,(iq.o.2.2.2.alloc _).drew⟩;generalize (w4.alloc (.cells #[.string XX,.string YY,.string Z1,.string Z2,I c] 40)).drew=W8 at UQ ⊢;clear iq k1 y1 y2 Y1 Y2 q0 Q0 q2 Q2;have y0:=UQ.o.1.cell 0 rfl;have y1:=UQ.o.1.cell 1 rfl;have y2:=UQ.o.1.cell 2 rfl;have y3:=UQ.o.1.cell 3 rfl;have y4:=UQ.o.1.cell 4 rfl;go_wp2_with fail;refine(H82.o _).mono ?_;rintro e w9 ⟨rfl,m9⟩;have HW9:=qH (a2 (UQ.o.2.1.mod m9 (fun x=>x)) (UQ.o.2.2.no m9));clear UQ m9 y0 y1 y2 y3 y4 H82;have u0:=HW9.o.1.cell 0 rfl;have f0:=HW9.o.1.free 0;have u1:=HW9.o.1.cell 1 rfl;have f1:=HW9.o.1.free 1;have u2:=HW9.o.1.cell 2 rfl;have f2:=HW9.o.1.free 2;have u3:=HW9.o.1.cell 3 rfl;have f3:=HW9.o.1.free 3;have u4:=HW9.o.1.cell 4 rfl;have f4:=HW9.o.1.free 4;go_wp2;refine bodyPost_ret (v:=.tuple #[.agg #[.string S1,.string S2,.string S3,.string S4,I sr.c],.bool true]) (by simp[results,results102,go_sem,u0,u1,u2,u3,u4]) rfl ?_;exact⟨by rw[HR.o,Gp.o.1,Gp.o.2.1,Gp.o.2.2.1,Gp.o.2.2.2];rfl,(((((HW9.o.2.setCell (a:=J w.heap.size 0) (fun e=>absurd e (Nat.lt_irrefl _)) _).setCell (a:=J w.heap.size 1) (fun e=>absurd e (Nat.lt_irrefl _)) _).setCell (a:=J w.heap.size 2) (fun e=>absurd e (Nat.lt_irrefl _)) _).setCell (a:=J w.heap.size 3) (fun e=>absurd e (Nat.lt_irrefl _)) _).setCell (a:=J w.heap.size 4) (fun e=>absurd e (Nat.lt_irrefl _)) _)⟩
end Go.Proofs.YtoebidlghdidoaaGreatDoor
