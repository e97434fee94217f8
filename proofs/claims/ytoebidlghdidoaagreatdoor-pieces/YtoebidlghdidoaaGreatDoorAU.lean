import Derived.Test.YtoebidlghdidoaaGreatDoorAT
set_option maxHeartbeats 1600000
set_option maxRecDepth 100000
namespace Go.Proofs.YtoebidlghdidoaaGreatDoor
open M2 Tryz List Go.RowKit
attribute [local go_sem ↓] Go.wp_at_zero Go.wp_at_succ
variable {r:List (List UInt8)} {j i g n cap base O k:Nat} {x:List UInt8} {s su:bP} {w:World} {v:M2.View} {ap a:M2.Apart} {ka kw kh kd va:Value} {b:Bool}
def str(s:List UInt8):Value:=.string ⟨s.toArray⟩
def SuE:Enc (List (List UInt8)):=⟨101,4,fun r=>[str (r.getD 0 []),str (r.getD 1 []),str (r.getD 2 []),str (r.getD 3 [])],fun _=>rfl⟩
def b16(a:List (List Bool))(i j:Nat):Value:=.bool ((a.getD i []).getD j false)
def ApE:Enc (List (List Bool)):=⟨251,16,fun a=>[b16 a 0 0,b16 a 0 1,b16 a 0 2,b16 a 0 3,b16 a 1 0,b16 a 1 1,b16 a 1 2,b16 a 1 3,b16 a 2 0,b16 a 2 1,b16 a 2 2,b16 a 2 3,b16 a 3 0,b16 a 3 1,b16 a 3 2,b16 a 3 3],fun _=>rfl⟩
theorem aZ(s:List UInt8):(⟨s.toArray⟩:ByteArray).size=s.length:=by show s.toArray.size=_;simp
theorem oD(a b:List UInt8):(⟨a.toArray⟩:ByteArray)++⟨b.toArray⟩=⟨(a++b).toArray⟩:=by
 apply ByteArray.ext;simp
theorem QI(a:List UInt8)(n:Nat):(⟨a.toArray⟩:ByteArray).extract n a.length=⟨(a.drop n).toArray⟩:=by
 apply ByteArray.ext;apply Array.ext';rw[extract_data];simp;exact take_of_length_le (by simp)
theorem Gq(a:List UInt8)(n:Nat):(⟨a.toArray⟩:ByteArray).extract 0 n=⟨(a.take n).toArray⟩:=by
 apply ByteArray.ext;apply Array.ext';rw[extract_data];simp
theorem aAA(hj:j<4)(hx:r[j]?=some x):(SuE.f r)[j]?=some (str x):=by
 have e:r.getD j []=x:=by rw[fM,hx];rfl
 match j,hj with
 | 0,_=>rw[<-e];rfl
 | 1,_=>rw[<-e];rfl
 | 2,_=>rw[<-e];rfl
 | 3,_=>rw[<-e];rfl
theorem Gs(h:lU s i j=some x):∃r,s[i]?=some r∧r[j]?=some x:=by
 unfold lU at h
 cases hq:s[i]? with
 | none=>rw[hq]at h;cases h
 | some r=>rw[hq]at h;exact⟨r,rfl,h⟩
theorem rV(h:Row SuE w (Jn g n cap) s)(hj:j<4)(hx:lU s i j=some x):w.cell? (J g (i*4+j))=some (.string ⟨x.toArray⟩):=by
 obtain⟨r,h1,h2⟩:=Gs hx;exact h.cell i j h1 (aAA hj h2)
structure Dq(s:bP)(n:Nat):Prop where
 len:s.length=n
 four:∀r∈s,r.length=4
 sm:∀r∈s,∀x∈r,x.length<=1000
theorem Dq.get(h:Dq s n)(hx:lU s i j=some x):i<n∧j<4∧x.length<=1000:=by
 obtain⟨r,h1,h2⟩:=Gs hx;have h3:=iI h1;have h4:=(bU h1).1;have h5:=(bU h2).1;rw[h.len]at h4;rw[h.four r h3]at h5;exact⟨h4,h5,h.sm r h3 x (iI h2)⟩
structure OL(v:M2.View)(su:bP)(ap:M2.Apart)(base O:Nat)(ka kw kh kd vs va:Value)(w:World):Prop where
 blk:aG w O [ka,kw,kh,kd,vs,va] 150
 vp:VP v base ka kw kh kd w
 su:Row SuE w vs su
 ap:Row ApE w va ap
theorem OL.no{vs:Value}{w':World}(h:OL v su ap base O ka kw kh kd vs va w)(hm:Mod No w w'):OL v su ap base O ka kw kh kd vs va w':=⟨h.blk.mod hm (fun x=>x),h.vp.no hm,h.su.no hm,h.ap.no hm⟩
theorem wE(v:M2.View)(hv:VOk v)(k tc l:Nat)(ht:tc<4):(aW v k tc l).2<4:=by
 unfold aW;split
 ·show (0:Nat)<4;omega
 ·rename_i d hd;have:=hv.tak d (iI hd);split
  ·show (0:Nat)<4;omega
  ·split
   ·show tc-1<4;omega
   ·split
    ·show d.1-1<4;omega
    ·show (0:Nat)<4;omega
theorem Ji(w:World)(v:M2.View)(su:bP)(ap:M2.Apart)(base O:Nat)(ka kw kh kd vs va:Value)(hO:OL v su ap base O ka kw kh kd vs va w)(hs:Dq su v.k.ahead.length)(kind tc l next:Nat)(hk:kind<v.k.ahead.length)(ht:tc<4)(hl:l<4){r:List UInt8 × Nat}(hM:nS v su kind tc l next=some r):J1 94 #[Jx O 0,I kind,I tc,I l,I next] w fun e w'=>e=.returned (.tuple #[.string ⟨r.1.toArray⟩,I r.2])∧Mod No w w':=by
 have hvp:=hO.vp;obtain⟨n,hn⟩:=eX v.k.ahead.length;obtain⟨a1,c1,h1,-,-⟩:=hvp.ah.open hn.symm;obtain⟨a2,c2,h2,-,-⟩:=hvp.wo.open rfl;obtain⟨a3,c3,h3,-,-⟩:=hvp.hi.open (n:=n) (by rw[hvp.nh];exact hn.symm);obtain⟨a4,c4,h4,-,-⟩:=hvp.de.open (n:=n) (by rw[hvp.ok.len];exact hn.symm);obtain⟨gs,cs,h5,-,-⟩:=hO.su.form (by rw[hs.len];omega);rw[hs.len,<-hn]at h5;obtain⟨a6,c6,h6,-,-⟩:=hO.ap.open rfl;generalize v.k.words.length=NW at h2;generalize ap.length=NA at h6;have H78:=qH (xB w ka kw kh kd v kind tc l hvp.ah.sl hvp.wo.sl hvp.hi.sl hvp.de hl (by rw[hvp.ok.len];exact hk) (by omega) (by have:=hvp.ok.len;have:=hvp.n24;omega) (fun d hd=>by have:=(hvp.ok.tak d hd).1;omega));have hvs:=qM v hvp.ok kind tc l (by omega);have hvl:=wE v hvp.ok kind tc l ht;unfold nS at hM;generalize aW v kind tc l=st at hM H78 hvs hvl;obtain⟨sd,left⟩:=st;simp only at hM H78 hvs hvl;split at hM
 ·rename_i x y hx hy;have hx3:=hs.get hx;have hy3:=hs.get hy;have HR:Hd (r=if (sd++x).length<y.length then ([],left) else ((sd++x).drop y.length,left)):=qH <| by
   split at hM
   ·rename_i h;rw[aP h];exact(dY hM).symm
   ·rename_i h;rw[aU h];exact(dY hM).symm
  have HO:=qH hO;have HX:Hd (lU su next left=some x∧lU su kind tc=some y):=⟨hx,hy⟩;have o0:=hO.blk.cell 0 rfl;have o1:=hO.blk.cell 1 rfl;have o2:=hO.blk.cell 2 rfl;have o3:=hO.blk.cell 3 rfl;have HV5:=qH h5;subst h1 h2 h3 h4;rw[<-hn]at hk hx3 hy3;have aIU:n<=24:=by rw[hn];exact hvp.n24
  clear hM hvp hO hx hy hn hs;go_enter func94,ntmps94;go_wp2_with fail;refine H78.o.mono ?_;rintro e w1 ⟨rfl,m1⟩;have DX:=HO.o.no m1;have q4:=DX.blk.cell 4 rfl;rw[HV5.o]at q4;have hsu:=DX.su;rw[HV5.o]at hsu;have cx:=rV hsu hx3.2.1 HX.o.1;have cy:=rV hsu hy3.2.1 HX.o.2;have hki:(kind:Int)<n:=by omega
  have hni:(next:Int)<n:=by omega
  have hti:(tc:Int)<4:=by omega
  have hlf:(left:Int)<4:=by omega
  obtain⟨SD,hSD⟩:=eX (⟨sd.toArray⟩:ByteArray);obtain⟨X,hX⟩:=eX (⟨x.toArray⟩:ByteArray);obtain⟨Y,hY⟩:=eX (⟨y.toArray⟩:ByteArray);have hs1:SD.size=sd.length:=by rw[hSD];exact aZ sd
  have hs2:X.size=x.length:=by rw[hX];exact aZ x
  have hs3:Y.size=y.length:=by rw[hY];exact aZ y
  have aD0:Hd (SD++X=⟨(sd++x).toArray⟩):=by show SD++X=_;rw[hSD,hX,oD]
  rw[<-hX]at cx;rw[<-hY]at cy;rw[<-hSD];have Lj:¬9223372036854775807<SD.size+X.size:=by omega
  have DN:=qH m1;clear H78 HO DX hsu m1 o0 o1 o2 o3 hSD hX hY HX;by_cases hlt:(sd++x).length<y.length
  ·have HR2:Hd (r=([],left)):=by have h:=HR.o;rw[aP hlt]at h;exact h
   have hlt2:SD.size+X.size<Y.size:=by rw[length_append]at hlt;omega
   have hlt3:(SD.size:Int)+(X.size:Int)<Y.size:=by omega
   go_wp2;exact bodyPost_ret (v:=.tuple #[.string ⟨#[]⟩,I left]) (by simp[results,results94,go_sem]) rfl ⟨by rw[HR2.o],DN.o⟩
  ·have HR2:Hd (r=((sd++x).drop y.length,left)):=by have h:=HR.o;rw[aU hlt]at h;exact h
   have hlt2:¬SD.size+X.size<Y.size:=by rw[length_append]at hlt;omega
   have hlt3:¬(SD.size:Int)+(X.size:Int)<Y.size:=by omega
   go_wp2;refine bodyPost_ret (v:=.tuple #[.string ((SD++X).extract y.length (sd.length+x.length)),I left]) (by simp[results,results94,go_sem]) rfl ⟨?_,DN.o⟩;rw[HR2.o,aD0.o,<-length_append,QI]
 ·cases hM
theorem aD1{a:List (List Bool)}(hi:i<4)(hj:j<4)(h:(a[i]?).bind (·[j]?)=some b):(ApE.f a)[i*4+j]?=some (.bool b):=by
 have e:b16 a i j=.bool b:=by
  unfold b16
  cases hq:a[i]? with
  | none=>rw[hq]at h;cases h
  | some r=>
   rw[hq]at h;have h:r[j]?=some b:=h;simp[getD_eq_getElem?_getD,hq,h]
 match i,hi,j,hj with
 | 0,_,0,_=>rw[<-e];rfl
 | 0,_,1,_=>rw[<-e];rfl
 | 0,_,2,_=>rw[<-e];rfl
 | 0,_,3,_=>rw[<-e];rfl
 | 1,_,0,_=>rw[<-e];rfl
 | 1,_,1,_=>rw[<-e];rfl
 | 1,_,2,_=>rw[<-e];rfl
 | 1,_,3,_=>rw[<-e];rfl
 | 2,_,0,_=>rw[<-e];rfl
 | 2,_,1,_=>rw[<-e];rfl
 | 2,_,2,_=>rw[<-e];rfl
 | 2,_,3,_=>rw[<-e];rfl
 | 3,_,0,_=>rw[<-e];rfl
 | 3,_,1,_=>rw[<-e];rfl
 | 3,_,2,_=>rw[<-e];rfl
 | 3,_,3,_=>rw[<-e];rfl
structure xU(a:M2.Apart)(n:Nat):Prop where
 len:a.length=n
 four:∀r∈a,r.length=4∧∀q∈r,q.length=4
theorem xU.has(h:xU a n)(hk:k<n)(hi:i<4)(hj:j<4):∃b,xH a k i j=some b:=by
 have h1:k<a.length:=by rw[h.len];exact hk
 have h2:=h.four a[k] (getElem_mem h1);have h3:i<a[k].length:=by omega
 have h4:=h2.2 a[k][i] (getElem_mem h3);refine⟨a[k][i][j]'(by omega),?_⟩;unfold xH;rw[bG h1];show (a[k][i]?).bind (·[j]?)=_;rw[bG h3];show a[k][i][j]?=_;rw[bG]
theorem pW(h:Row ApE w (Jn g n cap) a)(hi:i<4)(hj:j<4)(hb:xH a k i j=some b):w.cell? (J g (k*16+i*4+j))=some (.bool b):=by
 unfold xH at hb
 cases hq:a[k]? with
 | none=>rw[hq]at hb;cases hb
 | some r=>
  rw[hq]at hb;have:=h.cell k (i*4+j) hq (aD1 hi hj hb);rw[Nat.add_assoc];exact this
theorem Tc(w:World)(O ga n cap:Nat)(ap:M2.Apart)(c0 c1 c2 c3 c4:Value)(hO:aG w O [c0,c1,c2,c3,c4,Jn ga n cap] 150)(ha:Row ApE w (Jn ga n cap) ap)(hok:xU ap n)(k tc:Nat)(hk:k<n)(_hn:n<=1000)(ht:tc<4){r:Nat}(hM:mM ap k tc 10 0=some r):J1 95 #[Jx O 0,I k,I tc] w fun e w'=>e=.returned (I r)∧w'=w:=by
 have HM:=qH hM;have HA:=qH ha;have J7:=qH hok;have o5:=hO.cell 5 rfl;go_enter func95,ntmps95;go_wp2_with fail;go_loopg [7] 10 (fun gh v7 wr=>∃le:Nat,v7=I le∧le<=tc∧mM ap k tc gh le=some r∧wr=w)
 case atStart=>exact⟨0,rfl,by omega,HM.o,rfl⟩
 case round=>
  obtain⟨le,rfl,hle,hgo,rfl⟩:=hrel
  match gk,hgo with
  | 0,hgo=>cases hgo
  | g+1,hgo=>
   rw[mM]at hgo;by_cases hlt:tc<=le
   ·rw[aP hlt]at hgo;have HR:=qH (dY hgo);have yZ:¬(le:Int)<tc:=by omega
    go_wp2;go_ret;exact⟨by rw[HR.o];rfl,rfl⟩
   ·rw[aU hlt]at hgo;obtain⟨b,hb⟩:=J7.o.has hk (by omega:le<4) ht;rw[hb]at hgo;have cb:=pW HA.o (by omega) ht hb;have yZ:(le:Int)<tc:=by omega
    have hki:(k:Int)<n:=by omega
    have hl4:(le:Int)<4:=by omega
    have Vx:(tc:Int)<4:=by omega
    cases b with
    | true=>
     have HG:Hd (mM ap k tc g (le+1)=some r):=hgo;go_wp2;go_roundg g
     case measure=>omega
     case rel=>exact⟨le+1,by go_num,by omega,HG.o,rfl⟩
    | false=>
     have HR:=qH (dY hgo);go_wp2;go_ret;exact⟨by rw[HR.o];rfl,rfl⟩
theorem Gt(a w:List UInt8)(ws:List (List UInt8)):jA a (w::ws)=jA (a.take (aI.common a w)) ws:=rfl
theorem xC:∀(a b:List UInt8),aI.common a b<=a.length
 | [],b=>by simp[aI.common]
 | x::a,[]=>by simp[aI.common]
 | x::a,y::b=>by
  rw[aI.common];split
  ·have:=xC a b;simp;omega
  ·simp
theorem QJ(w:World)(B o n cap:Nat)(ws:List (List UInt8))(hc:∀i x,ws[i]?=some x->w.cell? (J B (o+i))=some (.string ⟨x.toArray⟩))(hl:ws.length=n)(hn0:0<n)(hn:n<=1000)(hs:∀x∈ws,x.length<=1000000):J1 96 #[.slice (some (J B o)) n cap] w fun e w'=>e=.returned (.string ⟨(jS ws).toArray⟩)∧Mod No w w':=by
 obtain⟨x0,hx0⟩:∃x,ws[0]?=some x:=⟨ws[0]'(by omega),bG _⟩;obtain⟨r,hr⟩:=eX (jS ws);rw[<-hr];have HR:Hd (jA x0 (ws.drop 0)=r):=qH <| by
  rw[hr]
  cases ws with
  | nil=>simp at hx0
  | cons y ys=>simp at hx0;subst hx0;rfl
 have HC:=qH hc;have HL:=qH hl;have HS:=qH hs;have HX0:=qH (hs x0 (iI hx0));have cx0:=hc 0 x0 hx0;rw[Nat.add_zero]at cx0;have hni:(0:Int)<(n:Int):=by omega
 have hnb:((n:Int)==0)=false:=by rw[beq_eq_false_iff_ne];omega
 go_enter func96,ntmps96;go_wp2_with fail;go_loopg [3,15] n (fun gh v3 v15 wr=>∃(i:Nat) (a:List UInt8),i<=n∧gh=n-i∧v15=I i∧v3=.string ⟨a.toArray⟩∧a.length<=1000000∧jA a (ws.drop i)=r∧Mod No w wr)
 case atStart=>exact⟨0,x0,by omega,by omega,rfl,rfl,HX0.o,HR.o,Mod.refl _ _⟩
 case round=>
  obtain⟨i,a,hin,hgk,rfl,rfl,ha,hgo,hm⟩:=hrel;have HM:=qH hm;by_cases hlt:i<n
  ·obtain⟨x,hx⟩:∃x,ws[i]?=some x:=⟨ws[i]'(by have:=HL.o;omega),bG _⟩;have hw:=HC.o i x hx;have cx:wr.cell? (J B (o+i))=some (.string ⟨x.toArray⟩):=by
    have hb:B<w.heap.size:=by
     have:=block_lt_of_cell hw;exact this
    unfold World.cell? at hw ⊢;rw[hm.block B hb (fun x=>x)];exact hw
   have hxs:=HS.o x (iI hx);have Jg:Hd (jA (a.take (aI.common a x)) (ws.drop (i+1))=r):=qH <| by
    obtain⟨h1,h2⟩:=bU hx;rw[<-hgo,kJ h1,h2,Gt]
   have hcm:=yQ ⟨a.toArray⟩ ⟨x.toArray⟩ wr (by rw[aZ];omega) (by rw[aZ];omega);rw[show ((⟨a.toArray⟩:ByteArray).data.toList)=a by simp,show ((⟨x.toArray⟩:ByteArray).data.toList)=x by simp]at hcm;have hle:=xC a x;generalize aI.common a x=c at hcm hle Jg;have Y8:=qH (Gq a c);have aGF:=aZ a;obtain⟨A,hA⟩:=eX (⟨a.toArray⟩:ByteArray);rw[<-hA]at hcm aGF Y8 ⊢;obtain⟨X,hX⟩:=eX (⟨x.toArray⟩:ByteArray);rw[<-hX]at hcm cx;have hii:(i:Int)<n:=by omega
   have hci:(c:Int)<=A.size:=by omega
   have hcn:c<=A.size:=by omega
   clear hm hgo hx hw hA hX;go_wp2_with fail;refine hcm.mono ?_;rintro e w2 ⟨rfl,nq,rfl⟩;go_wp2;go_roundg (n-(i+1))
   case measure=>omega
   case rel=>exact⟨i+1,a.take c,by omega,rfl,by go_num,by rw[Y8.o],by rw[length_take];omega,Jg.o,HM.o.drewN _⟩
  ·obtain rfl:i=n:=by omega
   have e1:ws.drop i=[]:=drop_of_length_le (by have:=HL.o;omega);rw[e1]at hgo;have HA:Hd (a=r):=hgo;go_wp2;go_ret;exact⟨by rw[<-HA.o];rfl,HM.o⟩
theorem aD2(S0 S1 S2 S3:ByteArray)(w:World):(Instr.index 101 (.agg #[.string S0,.string S1,.string S2,.string S3]) (I 0)).run prog w=.ok (.string S0) w:=by kernel_rfl
theorem aD3(S0 S1 S2 S3:ByteArray)(w:World):(Instr.index 101 (.agg #[.string S0,.string S1,.string S2,.string S3]) (I 1)).run prog w=.ok (.string S1) w:=by kernel_rfl
theorem aD4(S0 S1 S2 S3:ByteArray)(w:World):(Instr.index 101 (.agg #[.string S0,.string S1,.string S2,.string S3]) (I 2)).run prog w=.ok (.string S2) w:=by kernel_rfl
theorem aD5(S0 S1 S2 S3:ByteArray)(w:World):(Instr.index 101 (.agg #[.string S0,.string S1,.string S2,.string S3]) (I 3)).run prog w=.ok (.string S3) w:=by kernel_rfl
theorem aJ2(l:Nat)(hl:l<4)(S0 S1 S2 S3:ByteArray)(w:World):(Instr.index 101 (.agg #[.string S0,.string S1,.string S2,.string S3]) (I l)).run prog w=.ok (.string ([S0,S1,S2,S3].getD l ⟨#[]⟩)) w:=by
 match l,hl with
 | 0,_=>exact aD2 S0 S1 S2 S3 w
 | 1,_=>exact aD3 S0 S1 S2 S3 w
 | 2,_=>exact aD4 S0 S1 S2 S3 w
 | 3,_=>exact aD5 S0 S1 S2 S3 w
theorem aGG(S0 S1 S2 S3 Y:ByteArray)(j:Nat)(hj:j<4)(hY:[S0,S1,S2,S3][j]?=some Y)(w:World):(Instr.index 101 (.agg #[.string S0,.string S1,.string S2,.string S3]) (I j)).run prog w=.ok (.string Y) w:=by
 match j,hj,hY with
 | 0,_,hY=>have e:S0=Y:=dY hY;rw[<-e];exact aD2 S0 S1 S2 S3 w
 | 1,_,hY=>have e:S1=Y:=dY hY;rw[<-e];exact aD3 S0 S1 S2 S3 w
 | 2,_,hY=>have e:S2=Y:=dY hY;rw[<-e];exact aD4 S0 S1 S2 S3 w
 | 3,_,hY=>have e:S3=Y:=dY hY;rw[<-e];exact aD5 S0 S1 S2 S3 w
theorem aAB(s:bP)(i j:Nat)(x:List UInt8)(i' j':Nat)(h:¬(i=i'∧j=j')):lU (M2.set2 s i j x) i' j'=lU s i' j':=by
 unfold lU M2.set2;rw[getElem?_modify];by_cases hi:i=i'
 ·subst hi
  cases hq:s[i]? with
  | none=>simp
  | some r=>
   have hj:j≠j':=fun e=>h ⟨rfl,e⟩
   simp[hj]
 ·simp[hi]
theorem Dq.set(h:Dq s n)(hx:x.length<=1000):Dq (M2.set2 s i j x) n:=by
 unfold M2.set2;refine⟨by rw[length_modify];exact h.len,fun r hr=>?_,fun r hr y hy=>?_⟩
 ·obtain⟨q,hq⟩:=mem_iff_getElem?.1 hr;rw[getElem?_modify]at hq
  cases hs:s[q]? with
  | none=>rw[hs]at hq;simp at hq
  | some r0=>
   rw[hs]at hq;have h0:=h.four r0 (iI hs);by_cases hi:i=q
   ·simp[hi]at hq;rw[<-hq,length_set];exact h0
   ·simp[hi]at hq;rw[<-hq];exact h0
 ·obtain⟨q,hq⟩:=mem_iff_getElem?.1 hr;rw[getElem?_modify]at hq
  cases hs:s[q]? with
  | none=>rw[hs]at hq;simp at hq
  | some r0=>
   rw[hs]at hq;have h0:=h.sm r0 (iI hs);by_cases hi:i=q
   ·simp[hi]at hq;rw[<-hq]at hy;rcases mem_or_eq_of_mem_set hy with h1 | h1
    ·exact h0 y h1
    ·rw[h1];exact hx
   ·simp[hi]at hq;rw[<-hq]at hy;exact h0 y hy
theorem aD6(x:List UInt8)(hr:r.length=4)(hj:j<4):SuE.f (r.set j x)=(SuE.f r).set j (str x):=by
 match r,hr,j,hj with
 | [a,b,c,d],_,0,_=>rfl
 | [a,b,c,d],_,1,_=>rfl
 | [a,b,c,d],_,2,_=>rfl
 | [a,b,c,d],_,3,_=>rfl
theorem WA(x:List UInt8)(h:s[i]?=some r):M2.set2 s i j x=s.set i (r.set j x):=by
 unfold M2.set2;apply ext_getElem?;intro q;rw[getElem?_modify,getElem?_set];by_cases hi:i=q
 ·subst hi;obtain⟨h1,h2⟩:=bU h;simp[h1,h2]
 ·simp[hi]
theorem OL.cut{gs:Nat}(h:OL v su ap base O ka kw kh kd (Jn gs n cap) va w){N:Nat}(hs:Dq su N){y:List UInt8}(hy:lU su i j=some y)(x:List UInt8)(hj:j<4):OL v (M2.set2 su i j x) ap base O ka kw kh kd (Jn gs n cap) va (w.setCell (J gs (i*4+j)) (.string ⟨x.toArray⟩)):=by
 obtain⟨r,h1,h2⟩:=Gs hy;have hm:Mod (fun q=>q=gs) w (w.setCell (J gs (i*4+j)) (.string ⟨x.toArray⟩)):=(Mod.refl (fun q=>q=gs) w).setCell (a:=(J gs (i*4+j))) (fun _=>rfl) _;have key:∀{α:Type} {E:Enc α} {v:Value} {xs:List α},Row E w v xs->E.T≠101->Row E (w.setCell (J gs (i*4+j)) (.string ⟨x.toArray⟩)) v xs:=fun hr ht=>hr.mod hm (fun g hg e=>hr.apart h.su ht hg (by rw[e];rfl))
 have hv:=h.vp;refine⟨h.blk.mod hm (fun e=>h.blk.apart h.su (by decide) (by rw[e];rfl)),⟨hv.ok,hv.Xa,hv.n24,hv.nh,key hv.ah (by decide),key hv.wo (by decide),key hv.hi (by decide),key hv.de (by decide),hv.fa,hv.fw,hv.fh,hv.fd⟩,?_,key h.ap (by decide)⟩;rw[WA x h1];exact h.su.put i j h1 (x':=r.set j x) hj (aD6 x (hs.four r (iI h1)) hj)
theorem aAC{kind l next tc:Nat}{R:Bool × bP}(h:oQ v kind l next (n+1) tc s b=some R):∃y x,lU s kind tc=some y∧lU s next (aW v kind tc l).2=some x∧((aI.common y ((aW v kind tc l).1++x)<y.length∧oQ v kind l next n (tc+1) (M2.set2 s kind tc (y.take (aI.common y ((aW v kind tc l).1++x)))) true=some R)∨(¬aI.common y ((aW v kind tc l).1++x)<y.length∧oQ v kind l next n (tc+1) s b=some R)):=by
 rw[oQ]at h;split at h
 ·cases h
 ·rename_i y hy
  dsimp only at h
  split at h
  ·cases h
  ·rename_i x hx;refine⟨y,x,hy,hx,?_⟩;split at h
   ·rename_i hc;exact Or.inl ⟨hc,h⟩
   ·rename_i hc;exact Or.inr ⟨hc,h⟩
theorem aCl(w:World)(v:M2.View)(su:bP)(ap:M2.Apart)(base O:Nat)(ka kw kh kd va:Value)(gs n cap:Nat)(hO:OL v su ap base O ka kw kh kd (Jn gs n cap) va w)(hn:n=v.k.ahead.length)(hs:Dq su n)(kind l next:Nat)(hk:kind<n)(hl:l<4){b':Bool}{su':bP}(hM:oQ v kind l next 4 0 su false=some (b',su')):J1 126 #[Jx O 0,I kind,I l,I next] w fun e w'=>e=.returned (.bool b')∧OL v su' ap base O ka kw kh kd (Jn gs n cap) va w'∧Dq su' n∧Mod (fun q=>q=gs) w w':=by
 have hvp:=hO.vp;obtain⟨a1,c1,h1,-,-⟩:=hvp.ah.open hn.symm;obtain⟨a2,c2,h2,-,-⟩:=hvp.wo.open rfl;obtain⟨a3,c3,h3,-,-⟩:=hvp.hi.open (n:=n) (by rw[hvp.nh];exact hn.symm);obtain⟨a4,c4,h4,-,-⟩:=hvp.de.open (n:=n) (by rw[hvp.ok.len];exact hn.symm);generalize v.k.words.length=NW at h2;have H78:=qH fun(wx:World) (tc:Nat) (hx:VP v base ka kw kh kd wx) (ht:tc<4)=>xB wx ka kw kh kd v kind tc l hx.ah.sl hx.wo.sl hx.hi.sl hx.de hl (by rw[hx.ok.len];omega) (by omega) (by have:=hx.ok.len;have:=hx.n24;omega) (fun d hd=>by have:=(hx.ok.tak d hd).1;omega)
 obtain⟨r0,hr0⟩:∃r0,su[kind]?=some r0:=⟨su[kind]'(by rw[hs.len];exact hk),bG _⟩;have hr4:=hs.four r0 (iI hr0);obtain⟨y0,y1,y2,y3,hry⟩:∃y0 y1 y2 y3,r0=[y0,y1,y2,y3]:=by
  match r0,hr4 with
  | [a,b,c,d],_=>exact⟨a,b,c,d,rfl⟩
 have HO:=qH hO;have HV:Hd (VOk v∧v.k.ahead.length<=24∧n=v.k.ahead.length):=⟨hvp.ok,hvp.n24,hn⟩;have o4:=hO.blk.cell 4 rfl;have x0:w.cell? (J gs (kind*4))=some (.string ⟨y0.toArray⟩):=by have h:=hO.su.cell kind 0 hr0 (u:=str y0) (by rw[hry];rfl);exact h
 have x1:w.cell? (J gs (kind*4+1))=some (.string ⟨y1.toArray⟩):=by have h:=hO.su.cell kind 1 hr0 (u:=str y1) (by rw[hry];rfl);exact h
 have x2:w.cell? (J gs (kind*4+2))=some (.string ⟨y2.toArray⟩):=by have h:=hO.su.cell kind 2 hr0 (u:=str y2) (by rw[hry];rfl);exact h
 have x3:w.cell? (J gs (kind*4+3))=some (.string ⟨y3.toArray⟩):=by have h:=hO.su.cell kind 3 hr0 (u:=str y3) (by rw[hry];rfl);exact h
 have HG0:Hd (∀(j:Nat) (y:List UInt8),lU su kind j=some y->[(⟨y0.toArray⟩:ByteArray),⟨y1.toArray⟩,⟨y2.toArray⟩,⟨y3.toArray⟩][j]?=some ⟨y.toArray⟩):=fun j y hy=>by
  unfold lU at hy;rw[hr0,hry]at hy;have hy:[y0,y1,y2,y3][j]?=some y:=hy;have:([y0,y1,y2,y3].map fun z=>(⟨z.toArray⟩:ByteArray))[j]?=some ⟨y.toArray⟩:=by rw[getElem?_map,hy];rfl
  exact this
 have HS:=qH hs;have HM:=qH hM;have hki:(kind:Int)<n:=by omega
 have aIU:n<=24:=by rw[hn];exact hvp.n24
 generalize (⟨y0.toArray⟩:ByteArray)=S0 at x0 HG0;generalize (⟨y1.toArray⟩:ByteArray)=S1 at x1 HG0;generalize (⟨y2.toArray⟩:ByteArray)=S2 at x2 HG0;generalize (⟨y3.toArray⟩:ByteArray)=S3 at x3 HG0;clear hvp hO hs hM hr0 hr4 hry hn;go_enter func126,ntmps126;go_wp2_with fail;clear o4 x0 x1 x2 x3;go_loopg [9,22] 4 (fun gh v9 v22 wr=>∃(tc:Nat) (b:Bool) (s:bP),tc<=4∧gh=4-tc∧v22=I tc∧v9=.bool b∧oQ v kind l next gh tc s b=some (b',su')∧Dq s n∧(∀j,tc<=j->lU s kind j=lU su kind j)∧OL v s ap base O ka kw kh kd (Jn gs n cap) va wr∧Mod (fun q=>q=gs) w wr)
 case atStart=>exact⟨0,false,su,by omega,rfl,rfl,rfl,HM.o,HS.o,fun j _=>rfl,HO.o,Mod.refl _ _⟩
 case round=>
  obtain⟨tc,b,s,htc,hgk,rfl,rfl,hgo,hsk,hsame,hI,hm⟩:=hrel;have HI:=qH hI;have xA:=qH hm;clear HM HO HS
  match gk,hgk,hgo with
  | 0,hgk,hgo=>
   obtain rfl:tc=4:=by omega
   have HB:Hd (b=b'∧s=su'):=by
    have h:some (b,s)=some (b',su'):=hgo;cases h;exact⟨rfl,rfl⟩
   have qN:=qH hsk;have h44:¬((4:Nat):Int)<4:=by omega
   clear hgo hI hm hsame hsk hgk htc H78;go_wp2;go_ret;exact⟨by rw[<-HB.o.1];rfl,by rw[<-HB.o.2,<-h1,<-h2,<-h3,<-h4];exact HI.o,by rw[<-HB.o.2];exact qN.o,xA.o⟩
  | g+1,hgk,hgo=>
   have Vx:tc<4:=by omega
   obtain⟨y,x,hy,hx,hcase⟩:=aAC hgo;have h78:=H78.o wr tc hI.vp Vx;have hvs:=qM v HV.o.1 kind tc l (by omega);have hvl:=wE v HV.o.1 kind tc l Vx;obtain⟨sd,hsd⟩:=eX ((aW v kind tc l).1);obtain⟨left,hleft⟩:=eX ((aW v kind tc l).2);rw[<-hleft]at hx hvl;rw[<-hsd]at hcase;rw[<-hsd,<-hleft]at h78 hvs;clear hsd hleft;have hy3:=hsk.get hy;have hx3:=hsk.get hx;have hix:=fun w=>aGG S0 S1 S2 S3 ⟨y.toArray⟩ tc Vx (HG0.o tc y (by rw[<-hsame tc (dH _)];exact hy)) w
   have hcm:∀wx,J1 77 #[.string ⟨y.toArray⟩,.string ⟨(sd++x).toArray⟩] wx fun e w'=>e=.returned (I (aI.common y (sd++x):Int))∧∃n,w'=wx.drewN n:=fun wx=>by
    have h:=yQ ⟨y.toArray⟩ ⟨(sd++x).toArray⟩ wx (by rw[aZ];omega) (by rw[aZ,length_append];omega);rw[show ((⟨y.toArray⟩:ByteArray).data.toList)=y by simp,show ((⟨(sd++x).toArray⟩:ByteArray).data.toList)=sd++x by simp]at h;exact h
   have hle:=xC y (sd++x);generalize aI.common y (sd++x)=c at hcm hle hcase;have Y8:=qH (Gq y c);obtain⟨Y,hY⟩:=eX (⟨y.toArray⟩:ByteArray);have hYs:Y.size=y.length:=by rw[hY];exact aZ y
   obtain⟨SD,hSD⟩:=eX (⟨sd.toArray⟩:ByteArray);obtain⟨X,hX⟩:=eX (⟨x.toArray⟩:ByteArray);have hs1:SD.size=sd.length:=by rw[hSD];exact aZ sd
   have hs2:X.size=x.length:=by rw[hX];exact aZ x
   rw[<-hY]at hcm Y8 hix;rw[<-oD,<-hSD,<-hX]at hcm;rw[<-hSD]at h78;have HX:Hd (X=(⟨x.toArray⟩:ByteArray)∧lU s next left=some x∧lU s kind tc=some y):=⟨hX,hx,hy⟩;have o0:=hI.blk.cell 0 rfl;have o1:=hI.blk.cell 1 rfl;have o2:=hI.blk.cell 2 rfl;have o3:=hI.blk.cell 3 rfl;rw[h1]at o0 h78;rw[h2]at o1 h78;rw[h3]at o2 h78;rw[h4]at o3 h78;have hti:(tc:Int)<4:=by omega
   have qN:=qH hsk;have aCV:=qH hsame;clear hI hm hgo hsk hsame hx hy hY hSD hX;go_wp2_with fail;refine h78.mono ?_;rintro e w1 ⟨rfl,m1⟩;have HI1:=qH (HI.o.no m1);have DN:=qH (xA.o.no m1);clear h78 m1 o0 o1 o2 o3 HI xA hix;have q4:=HI1.o.blk.cell 4 rfl;have cx:=rV HI1.o.su hx3.2.1 HX.o.2.1;rw[<-HX.o.1]at cx;have hni:(next:Int)<n:=by omega
   have hlf:(left:Int)<4:=by omega
   have Lj:¬9223372036854775807<SD.size+X.size:=by omega
   go_wp2_with fail;refine(hcm _).mono ?_;rintro e w2 ⟨rfl,nq,rfl⟩;have HI2:Hd (OL v s ap base O ka kw kh kd (Jn gs n cap) va (w1.drewN nq)):=HI1.o.no ((Mod.refl _ _).drewN _);have lF:Hd (Mod (fun q=>q=gs) w (w1.drewN nq)):=DN.o.drewN _;generalize w1.drewN nq=w2 at HI2 lF ⊢;clear hcm HI1 DN q4 cx Lj;rcases hcase with ⟨hlt,hnext⟩ | ⟨hlt,hnext⟩
   ·have pV:=qH hnext;have hci:(c:Int)<Y.size:=by omega
    have aHU:(c:Int)<=Y.size:=by omega
    have hcn:c<=Y.size:=by omega
    have q4:=HI2.o.blk.cell 4 rfl;have cy:=rV HI2.o.su Vx HX.o.2.2;have fy:=HI2.o.su.free (kind*4+tc);clear hnext;go_wp2_with fail
    go_region
    all_goals
     have HI3:=qH ((HI2.o.no ((Mod.refl _ _).drew)).cut qN.o HX.o.2.2 (y.take c) Vx);have Aa:Hd (Mod (fun q=>q=gs) w ((w2.drew).setCell (J gs (kind*4+tc)) (.string ⟨(y.take c).toArray⟩))):=lF.o.drew.setCell (a:=(J gs (kind*4+tc))) (fun _=>rfl) _;rw[<-Y8.o]at HI3 Aa;clear q4 cy fy;go_wp2;go_roundg g
     case measure=>omega
     case rel=>exact⟨tc+1,true,_,by omega,by omega,by go_num,rfl,pV.o,qN.o.set (by rw[length_take];omega),fun j hj=>by rw[aAB _ _ _ _ _ _ (by omega)];exact aCV.o j (by omega),HI3.o,Aa.o⟩
   ·have pV:=qH hnext;have hci:¬(c:Int)<Y.size:=by omega
    clear hnext;go_wp2;go_roundg g
    case measure=>omega
    case rel=>exact⟨tc+1,b,s,by omega,by omega,by go_num,rfl,pV.o,qN.o,fun j hj=>aCV.o j (by omega),HI2.o,lF.o⟩
end Go.Proofs.YtoebidlghdidoaaGreatDoor
