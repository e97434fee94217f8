import Derived.Test.YtoebidlghdidoaaGreatDoorAQ
import Derived.Deep.MidRow
import Derived.Deep.WholeRow
import Derived.ChangeKeysEq
import Derived.Deep.LoopGhost
import Derived.Deep.CutRange
import Derived.Deep.RegionLaw
import Derived.Great.BuildSlice
set_option maxHeartbeats 2000000
set_option maxRecDepth 100000
namespace Go.Proofs.YtoebidlghdidoaaGreatDoor
open M2 Tryz List
section
open Go.RowKit
attribute [local go_sem ↓] Go.wp_at_zero Go.wp_at_succ
variable {w wr:World} {g n cap i:Nat} {h:List Bool} {b:Bool}
theorem Mod.setRow{S:Nat->Prop}{w1:World}(h:Mod S w w1)(ha:g<w.heap.size->S g)(cs:Array Value):Mod S w (w1.setRow g cs):=⟨h.os,h.tape,h.output,by simpa using h.size,fun k hk hn=>(setRow_other _ _ _ _ (fun e=>hn (by rw[e];exact ha (by rw[<-e];exact hk)))).trans (h.block k hk hn)⟩
theorem aG.setRow{w b cs T}(h:aG w b cs T)(c2:List Value):aG (w.setRow b c2.toArray) b c2 T:=setRow_heap w b _ _ T (0,0) h
def hc(h:List Bool):List Value:=(jR h).map .bool
theorem wU(h:List Bool):(jR h).length=60:=by simp[jR]
theorem eH(h:List Bool):(hc h).length=60:=by simp[hc,wU]
theorem BH(hl:h.length=60):jR h=h:=by
 unfold jR;rw[take_append_of_le_length (by omega),take_of_length_le (by omega)]
theorem lD.cell'{xs:List Bool}(h:Row lD w (Jn g n cap) xs){x:Bool}(hx:xs[i]?=some x):w.cell? (J g i)=some (.bool x):=by
 have:=h.cell i 0 hx (u:=.bool x) rfl;have e:i*lD.c+0=i:=by show i*1+0=i;omega
 rwa [e]at this
def Pj:Enc (List Bool):=⟨200,60,hc,eH⟩
theorem aI5:(prog.info? 200).map (fun i=>(i.zero,i.size,i.bytes))=some (some (.agg (hc []).toArray),60,60):=by kernel_rfl
theorem aIz:(prog.info? 200).map (·.size)=some 60:=by kernel_rfl
theorem aAo(hb:(jR h)[i]?=some b):(hc h)[i]?=some (.bool b):=by simp[hc,hb]
theorem BJ(h:List Bool):∀v∈hc h,v.oneCell'=true:=by
 intro v hv;obtain⟨b,_,rfl⟩:=mem_map.1 hv;rfl
theorem Pm(hi:i<60)(hb:h[i]?=some b):(hc (h.take i)).set i (.bool b)=hc (h.take (i+1)):=by
 have hl:=(bU hb).1;unfold hc;rw[<-map_set];congr 1;apply ext_getElem?;intro j;unfold jR;rw[getElem?_set];by_cases hj:i=j
 ·subst hj;rw[aP rfl,aP (by simp;omega),getElem?_take,aP hi,jG (by simp;omega),getElem?_take,aP (by omega),hb]
 ·rw[aU hj,getElem?_take,getElem?_take];by_cases hj6:j<60
  ·rw[aP hj6,aP hj6];by_cases hji:j<i
   ·rw[jG (by simp;omega),jG (by simp;omega),getElem?_take,getElem?_take,aP hji,aP (by omega)]
   ·rw[mW (by simp;omega),mW (by simp;omega),getElem?_replicate,getElem?_replicate];rw[aP (by simp;omega),aP (by simp;omega)]
  ·rw[aU hj6,aU hj6]
theorem aAp(h:List Bool)(hi:60<=i∨h.length<=i):hc (h.take i)=hc h:=by
 unfold hc jR;congr 1;apply ext_getElem?;intro j;rw[getElem?_take,getElem?_take];by_cases hj6:j<60
 ·rw[aP hj6,aP hj6];rcases hi with hi | hi
  ·by_cases hjh:j<h.length
   ·rw[jG (by simp;omega),jG hjh,getElem?_take,aP (by omega)]
   ·rw[take_of_length_le (by omega)]
  ·rw[take_of_length_le hi]
 ·rw[aU hj6,aU hj6]
structure EI(w:World)(g n cap:Nat)(a1:Option Addr)(n1 c1:Nat)(hit:List Bool)(i:Nat)(wr:World):Prop where
 box:aG wr w.heap.size [Value.slice a1 n1 c1,Jn g n cap] 138
 res:aG wr (w.heap.size+1) (hc []) 200
 hs:aG wr (w.heap.size+1+1) (hc (hit.take i)) 200
 row:Row lD wr (Jn g n cap) hit
 md:Mod No w wr
theorem EI.put{a1:Option Addr}{n1 c1:Nat}{hit:List Bool}(h:EI w g n cap a1 n1 c1 hit i wr)(hb:(hc (hit.take i)).set i (.bool b)=hc (hit.take (i+1))):EI w g n cap a1 n1 c1 hit (i+1) (wr.setCell ⟨w.heap.size+1+1,i,none⟩ (.bool b)):=⟨h.box.other (a:=⟨w.heap.size+1+1,i,none⟩) (by simp;omega) _,h.res.other (a:=⟨w.heap.size+1+1,i,none⟩) (by simp) _,by rw[<-hb];exact h.hs.set i _,h.row.other (a:=⟨w.heap.size+1+1,i,none⟩) (h.hs.apart h.row (by decide)) _,h.md.setCell (a:=⟨w.heap.size+1+1,i,none⟩) (fun e=>absurd e (by simp;omega)) _⟩
theorem Pn(w:World)(a1:Option Addr)(n1 c1:Nat)(vh:Value)(hit:List Bool)(hh:Row lD w vh hit)(hl0:0<hit.length)(hl:hit.length<=1000000):J1 88 #[.agg #[.slice a1 n1 c1,vh]] w fun e w'=>e=.returned (.agg (hc hit).toArray)∧Mod No w w':=by
 obtain⟨g,cap,rfl,hg,hcap⟩:=hh.form hl0;obtain⟨n,hn⟩:=eX hit.length;rw[<-hn]at hh hl0 hl hcap;have HN:=qH hn;have HH:=qH hh;rw[<-hn];clear hn;go_enter func88,ntmps88;go_wp2_with fail;generalize hS:(w.alloc (.cells #[Value.slice a1 n1 c1,Value.slice (some { block:=g,off:=0 }) n cap] 138))=S0;have hZ:∀A B,A=Obj.cells (hc []).toArray 200->B=Obj.cells (hc []).toArray 200->EI w g n cap a1 n1 c1 hit 0 ((S0.alloc A).alloc B):=by
  intro A B hA hB;subst hA hB;rw[<-hS];have m:Mod No w (((w.alloc (.cells #[Value.slice a1 n1 c1,Value.slice (some { block:=g,off:=0 }) n cap] 138)).alloc (.cells (hc []).toArray 200)).alloc (.cells (hc []).toArray 200)):=(((Mod.refl _ _).alloc _).alloc _).alloc _;exact⟨vV w _ _ _,tu w _ _ _,uD w _ _ _,HH.o.no m,m⟩
 have HZ:Hd (EI w g n cap a1 n1 c1 hit 0 _):=hZ _ _ rfl rfl;go_loopg [4] 60 (fun gh v4 wr=>∃i:Nat,v4=I i∧i<=60∧i<=n∧gh=60-i∧EI w g n cap a1 n1 c1 hit i wr)
 case atStart=>exact⟨0,rfl,by omega,by omega,rfl,HZ.o⟩
 case round=>
  obtain⟨i,rfl,hi6,hin,hgh,hI⟩:=hrel;have HI:=qH hI;by_cases hlt:i<60∧i<n
  ·obtain⟨b,hb⟩:∃b,hit[i]?=some b:=⟨hit[i]'(by have:=HN.o;omega),bG _⟩;have c1':=hI.box.cell 1 rfl;have ch:=lD.cell' hI.row hb;obtain⟨u,hu⟩:∃u,(hc (hit.take i))[i]?=some u:=⟨(hc (hit.take i))[i]'(by rw[eH];omega),bG _⟩;have cu:=hI.hs.cell i hu;have fu:=hI.hs.free i;have hi1:(i:Int)<60:=by omega
   have hi2:(i:Int)<n:=by omega
   have HS:=qH (Pm hlt.1 hb);go_wp2;go_roundg (60-(i+1))
   case measure=>omega
   case rel=>exact⟨i+1,by go_num,by omega,by omega,rfl,HI.o.put HS.o⟩
  ·have HT:Hd (hc (hit.take i)=hc hit):=aAp hit (by have:=HN.o;omega);have c1':=hI.box.cell 1 rfl;have hl:=hI.hs;rw[HT.o]at hl;have hr:=hI.res;have HM:=qH hI.md;have hsp:i<60∧¬i<n∨¬i<60:=by omega
   rcases hsp with ⟨h6,h7⟩ | h6
   ·have h61:(i:Int)<60:=by omega
    have h71:¬(i:Int)<n:=by omega
    go_wp2_with (first | refine wpList_load_row rfl 200 _ rfl (w.heap.size+1+1) rfl 200 (hc hit).toArray (0,0) _ hl underlying200 rfl (by simp[aIz,eH]) ?_ | refine wpList_store_row rfl 200 _ _ rfl (w.heap.size+1) (hc hit).toArray rfl rfl 200 (hc []).toArray hr (by simp[aIz,eH]) (by simp[eH]) (all_oneCell_toArray (BJ hit)) ?_);refine bodyPost_ret (v:=.agg (hc hit).toArray) (results_cell_row (p:=2) rfl _ _ (w.heap.size+1) 200 (hc hit).toArray (0,0) _ rfl (hr.setRow (hc hit)) underlying200 rfl (by simp[aIz,eH])) rfl ⟨rfl,HM.o.setRow (fun e=>absurd e (by omega)) _⟩
   ·have h61:¬(i:Int)<60:=by omega
    go_wp2_with (first | refine wpList_load_row rfl 200 _ rfl (w.heap.size+1+1) rfl 200 (hc hit).toArray (0,0) _ hl underlying200 rfl (by simp[aIz,eH]) ?_ | refine wpList_store_row rfl 200 _ _ rfl (w.heap.size+1) (hc hit).toArray rfl rfl 200 (hc []).toArray hr (by simp[aIz,eH]) (by simp[eH]) (all_oneCell_toArray (BJ hit)) ?_);refine bodyPost_ret (v:=.agg (hc hit).toArray) (results_cell_row (p:=2) rfl _ _ (w.heap.size+1) 200 (hc hit).toArray (0,0) _ rfl (hr.setRow (hc hit)) underlying200 rfl (by simp[aIz,eH])) rfl ⟨rfl,HM.o.setRow (fun e=>absurd e (by omega)) _⟩
theorem rP(h:List Bool)(l:Nat):∀(n:Nat) (rs:List aI.R4) (h':List Bool),bF h l rs n=some h'->h'.length=n
 | 0,rs,h',e=>by rw[bF.eq_def]at e;cases rs <;> (simp at e;subst e;rfl)
 | n+1,[],h',e=>by
  rw[bF]at e
  cases hq:bF h l [] n with
  | none=>rw[hq]at e;cases e
  | some x=>rw[hq]at e;cases e;simp[rP h l n [] x hq]
 | n+1,r::rs,h',e=>by
  rw[bF]at e;split at e
  ·cases e
  ·split at e
   ·cases e
   ·cases hq:bF h l rs n with
    | none=>rw[hq]at e;cases e
    | some x=>rw[hq]at e;cases e;simp[rP h l n rs x hq]
theorem BL(h:List Bool)(l:Nat):∀(n:Nat) (rs:List aI.R4) (h':List Bool) (i:Nat),bF h l rs n=some h'->i<n->rs.length<=i->h'[i]?=some false
 | 0,rs,h',i,e,hi,_=>by omega
 | n+1,[],h',i,e,hi,_=>by
  rw[bF]at e
  cases hq:bF h l [] n with
  | none=>rw[hq]at e;cases e
  | some x=>
   rw[hq]at e;cases e
   cases i with
   | zero=>rfl
   | succ i=>simpa using BL h l n [] x i hq (by omega) (by simp)
 | n+1,r::rs,h',i,e,hi,hr=>by
  rw[bF]at e;split at e
  ·cases e
  ·split at e
   ·cases e
   ·cases hq:bF h l rs n with
    | none=>rw[hq]at e;cases e
    | some x=>
     rw[hq]at e;cases e
     cases i with
     | zero=>simp at hr
     | succ i=>simpa using BL h l n rs x i hq (by omega) (by simpa using hr)
theorem Po(h:List Bool)(l:Nat):∀(n:Nat) (rs:List aI.R4) (h':List Bool) (i:Nat) (r:aI.R4),bF h l rs n=some h'->i<n->rs[i]?=some r->∃t b,r.get l=some t∧h[t]?=some b∧h'[i]?=some b
 | 0,rs,h',i,r,e,hi,_=>by omega
 | n+1,[],h',i,r,e,hi,hr=>by simp at hr
 | n+1,r0::rs,h',i,r,e,hi,hr=>by
  rw[bF]at e;split at e
  ·cases e
  ·rename_i t ht;split at e
   ·cases e
   ·rename_i b hb
    cases hq:bF h l rs n with
    | none=>rw[hq]at e;cases e
    | some x=>
     rw[hq]at e;cases e
     cases i with
     | zero=>simp at hr;subst hr;exact⟨t,b,ht,hb,rfl⟩
     | succ i=>simpa using Po h l n rs x i r hq (by omega) (by simpa using hr)
theorem aCe(hl:h.length=60)(hf:∀j,i<=j->j<60->h[j]?=some false):hc (h.take i)=hc h:=by
 unfold hc;congr 1;rw[BH hl];unfold jR;apply ext_getElem?;intro j;rw[getElem?_take];by_cases hj:j<60
 ·rw[aP hj];by_cases hji:j<i
  ·rw[jG (by simp;omega),getElem?_take,aP hji]
  ·rw[mW (by simp;omega),getElem?_replicate,aP (by simp;omega),hf j (by omega) hj]
 ·rw[aU hj,getElem?_eq_none (by omega)]
theorem zq(r:aI.R4)(l:Nat)(hl:l<4):(nC.f r)[l]?=(r.get l).map fun t=>I t:=by
 match l,hl with
 | 0,_=>rfl
 | 1,_=>rfl
 | 2,_=>rfl
 | 3,_=>rfl
structure HI(w:World)(vx vh:Value)(nx:List aI.R4)(h h':List Bool)(i:Nat)(wr:World):Prop where
 box:aG wr w.heap.size [vx,vh] 138
 old:aG wr (w.heap.size+1) (hc h) 200
 res:aG wr (w.heap.size+1+1) (hc []) 200
 hs:aG wr (w.heap.size+1+1+1) (hc (h'.take i)) 200
 row:Row nC wr vx nx
 md:Mod No w wr
theorem HI.put{vx vh:Value}{nx:List aI.R4}{hh h':List Bool}(h:HI w vx vh nx hh h' i wr)(hb:(hc (h'.take i)).set i (.bool b)=hc (h'.take (i+1))):HI w vx vh nx hh h' (i+1) (wr.setCell ⟨w.heap.size+1+1+1,i,none⟩ (.bool b)):=⟨h.box.other (a:=⟨w.heap.size+1+1+1,i,none⟩) (by simp;omega) _,h.old.other (a:=⟨w.heap.size+1+1+1,i,none⟩) (by simp) _,h.res.other (a:=⟨w.heap.size+1+1+1,i,none⟩) (by simp) _,by rw[<-hb];exact h.hs.set i _,h.row.other (a:=⟨w.heap.size+1+1+1,i,none⟩) (h.hs.apart h.row (by decide)) _,h.md.setCell (a:=⟨w.heap.size+1+1+1,i,none⟩) (fun e=>absurd e (by simp;omega)) _⟩
theorem X7(w:World)(vx:Value)(a2:Option Addr)(n2 c2:Nat)(nx:List aI.R4)(h h':List Bool)(l:Nat)(hx:Row nC w vx nx)(hl:l<4)(h60:h.length=60)(hl0:0<nx.length)(hl1:nx.length<=1000000)(hM:bF h l nx 60=some h'):J1 89 #[.agg #[vx,.slice a2 n2 c2],.agg (hc h).toArray,I l] w fun e w'=>e=.returned (.agg (hc h').toArray)∧Mod No w w':=by
 obtain⟨g,cap,rfl,hg,hcap⟩:=hx.form hl0;obtain⟨n,hn⟩:=eX nx.length;rw[<-hn]at hx hl0 hl1 hcap;have HN:=qH hn;have HH:=qH hx;have H6:=qH (rP h l 60 nx h' hM);have HA:=qH fun i r (hi:i<60) (hr:nx[i]?=some r)=>Po h l 60 nx h' i r hM hi hr
 have HO:=qH fun i (hi:i<60) (hr:nx.length<=i)=>BL h l 60 nx h' i hM hi hr
 have HQ:=qH h60;rw[<-hn];clear hn;go_enter func89,ntmps89;go_wp2_with fail;generalize hS:((w.alloc (.cells #[Value.slice (some { block:=g,off:=0 }) n cap,.slice a2 n2 c2] 138)).alloc (.cells (hc h).toArray 200))=S0;have hZ:∀A B,A=Obj.cells (hc []).toArray 200->B=Obj.cells (hc []).toArray 200->HI w (Jn g n cap) (.slice a2 n2 c2) nx h h' 0 ((S0.alloc A).alloc B):=by
  intro A B hA hB;subst hA hB;rw[<-hS];have m:Mod No w ((((w.alloc (.cells #[Value.slice (some { block:=g,off:=0 }) n cap,.slice a2 n2 c2] 138)).alloc (.cells (hc h).toArray 200)).alloc (.cells (hc []).toArray 200)).alloc (.cells (hc []).toArray 200)):=((((Mod.refl _ _).alloc _).alloc _).alloc _).alloc _;have q:=aFc w (Obj.cells #[Value.slice (some { block:=g,off:=0 }) n cap,.slice a2 n2 c2] 138) (Obj.cells (hc h).toArray 200) (Obj.cells (hc []).toArray 200) (Obj.cells (hc []).toArray 200);exact⟨q.1,q.2.1,q.2.2.1,q.2.2.2,HH.o.no m,m⟩
 have HZ:Hd (HI w (Jn g n cap) (.slice a2 n2 c2) nx h h' 0 _):=hZ _ _ rfl rfl;go_loopg [8] 60 (fun gh v8 wr=>∃i:Nat,v8=I i∧i<=60∧i<=n∧gh=60-i∧HI w (Jn g n cap) (.slice a2 n2 c2) nx h h' i wr)
 case atStart=>exact⟨0,rfl,by omega,by omega,rfl,HZ.o⟩
 case round=>
  obtain⟨i,rfl,hi6,hin,hgh,hI⟩:=hrel;have HII:=qH hI;by_cases hlt:i<60∧i<n
  ·obtain⟨r,hr⟩:∃r,nx[i]?=some r:=⟨nx[i]'(by have:=HN.o;omega),bG _⟩;obtain⟨t,b,ht,hb,hb'⟩:=HA.o i r hlt.1 hr;have ht6:t<60:=by have:=(bU hb).1;rw[HQ.o]at this;exact this
   have c1':=hI.box.cell 0 rfl;have cr:wr.cell? (J g (i*4+l))=some (I t):=by
    have q:=zq r l hl;rw[ht]at q;exact hI.row.cell i l hr q
   have co:=hI.old.cell t (aAo (by rw[BH HQ.o];exact hb));obtain⟨u,hu⟩:∃u,(hc (h'.take i))[i]?=some u:=⟨(hc (h'.take i))[i]'(by rw[eH];omega),bG _⟩;have cu:=hI.hs.cell i hu;have fu:=hI.hs.free i;have hi1:(i:Int)<60:=by omega
   have hi2:(i:Int)<n:=by omega
   have hi3:(l:Int)<4:=by omega
   have hi4:(t:Int)<60:=by omega
   have HS:=qH (Pm hlt.1 hb');go_wp2;go_roundg (60-(i+1))
   case measure=>omega
   case rel=>exact⟨i+1,by go_num,by omega,by omega,rfl,HII.o.put HS.o⟩
  ·have HT:Hd (hc (h'.take i)=hc h'):=aCe H6.o (fun j hj hj6=>HO.o j hj6 (by have:=HN.o;omega));have c1':=hI.box.cell 0 rfl;have hl:=hI.hs;rw[HT.o]at hl;have hr:=hI.res;have HM:=qH hI.md;have hsp:i<60∧¬i<n∨¬i<60:=by omega
   rcases hsp with ⟨h6,h7⟩ | h6
   ·have h61:(i:Int)<60:=by omega
    have h71:¬(i:Int)<n:=by omega
    go_wp2_with (first | refine wpList_load_row rfl 200 _ rfl (w.heap.size+1+1+1) rfl 200 (hc h').toArray (0,0) _ hl underlying200 rfl (by simp[aIz,eH]) ?_ | refine wpList_store_row rfl 200 _ _ rfl (w.heap.size+1+1) (hc h').toArray rfl rfl 200 (hc []).toArray hr (by simp[aIz,eH]) (by simp[eH]) (all_oneCell_toArray (BJ h')) ?_);refine bodyPost_ret (v:=.agg (hc h').toArray) (results_cell_row (p:=6) rfl _ _ (w.heap.size+1+1) 200 (hc h').toArray (0,0) _ rfl (hr.setRow (hc h')) underlying200 rfl (by simp[aIz,eH])) rfl ⟨rfl,HM.o.setRow (fun e=>absurd e (by omega)) _⟩
   ·have h61:¬(i:Int)<60:=by omega
    go_wp2_with (first | refine wpList_load_row rfl 200 _ rfl (w.heap.size+1+1+1) rfl 200 (hc h').toArray (0,0) _ hl underlying200 rfl (by simp[aIz,eH]) ?_ | refine wpList_store_row rfl 200 _ _ rfl (w.heap.size+1+1) (hc h').toArray rfl rfl 200 (hc []).toArray hr (by simp[aIz,eH]) (by simp[eH]) (all_oneCell_toArray (BJ h')) ?_);refine bodyPost_ret (v:=.agg (hc h').toArray) (results_cell_row (p:=6) rfl _ _ (w.heap.size+1+1) 200 (hc h').toArray (0,0) _ rfl (hr.setRow (hc h')) underlying200 rfl (by simp[aIz,eH])) rfl ⟨rfl,HM.o.setRow (fun e=>absurd e (by omega)) _⟩
end
section
open Go.RowKit
variable {w:World} {b o n T:Nat} {α:Type} {P:Program} {dst:Option Tmp} {x y:Operand} {ty:TypeId} {pos:String} {after:Array Edge} {guard:Option (Nat × Bool)} {a:Act} {K:Act->World->Prop} {Q:Exit->Act->World->Prop} {z:Value}
def iQ(w:World)(b o n:Nat):List Value:=(range n).map fun j=>(w.cell? (J b (o+j))).getD undef
def rQ(w:World)(b o n:Nat):Bool:=(range n).all fun j=>(w.cell? (J b (o+j))).isSome
def pb:Value->Nat
 | .pointer (some a)=>a.block
 | _=>0
def po:Value->Nat
 | .pointer (some a)=>a.off
 | _=>0
def ag:Value->Array Value
 | .agg c=>c
 | _=>#[]
theorem Pq(a:Addr):pb (.pointer (some a))=a.block:=rfl
theorem Pv(a:Addr):po (.pointer (some a))=a.off:=rfl
theorem Px(c:Array Value):ag (.agg c)=c:=rfl
theorem nG(w:World)(b o n:Nat):(iQ w b o n).length=n:=by simp[iQ]
theorem ql(h:rQ w b o n=true):w.rangeAt b o (iQ w b o n):=by
 intro j v hv;have hj:j<n:=by have:=(bU hv).1;rwa [nG]at this
 have hs:=(all_eq_true.1 h) j (by simpa using hj);obtain⟨u,hu⟩:=Option.isSome_iff_exists.1 hs;simp[iQ,hj,hu]at hv;rw[hu,hv]
theorem dF{cs:List Value}(h:w.rangeAt b o cs):iQ w b o cs.length=cs∧rQ w b o cs.length=true:=by
 refine⟨?_,?_⟩
 ·apply ext_getElem?;intro j;by_cases hj:j<cs.length
  ·have:=h j cs[j] (bG hj);simp[iQ,hj,this]
  ·rw[getElem?_eq_none (by rw[nG];omega),getElem?_eq_none (by omega)]
 ·refine all_eq_true.2 fun j hj=>?_
  have hj':j<cs.length:=by simpa using hj
  rw[h j cs[j] (bG hj')];rfl
theorem lM(w:World)(b o n:Nat):iQ w.drew b o n=iQ w b o n:=rfl
theorem pO(w:World)(b o n:Nat):rQ w.drew b o n=rQ w b o n:=rfl
theorem aG.range{w b cs T}(h:aG w b cs T):w.rangeAt b 0 cs:=fun j v hv=>by rw[Nat.zero_add];exact h.cell j hv
theorem Row.range{E:Enc α}{g cap:Nat}{xs:List α}(h:Row E w (Jn g n cap) xs){i:Nat}{x:α}(hx:xs[i]?=some x):w.rangeAt g (i*E.c) (E.f x):=fun j _ hv=>h.cell i j hx hv
def DV(n:Nat):Value->Bool
 | .agg c=>c.size==n&&c.all (·.oneCell')
 | _=>false
theorem Vt{v:Value}(h:DV n v=true):v=.agg (ag v)∧(ag v).size=n∧(ag v).all (·.oneCell')=true:=by
 unfold DV at h;split at h
 ·rename_i c;rw[Bool.and_eq_true]at h;exact⟨rfl,(by simpa using h.1:c.size=n),h.2⟩
 ·cases h
theorem Jd{d:TypeDesc}(hu:P.underlying T=some d)(hd:d.isRow=true)(hi:(P.info? T).map (·.size)=some n)
  (hx:a.eval x=.pointer (some ⟨pb (a.eval x),po (a.eval x),none⟩)) (hA:rQ w (pb (a.eval x)) (po (a.eval x)) n=true):Oper.wp P { dst:=dst,op:=.load T x,type:=ty,pos:=pos,after:=after,guard:=guard } a w K Q=K (a.put dst (.agg (iQ w (pb (a.eval x)) (po (a.eval x)) n).toArray)) w:=by
 have hr:=run_loadVar_mid (P:=P) w (pb (a.eval x)) (po (a.eval x)) T (iQ w (pb (a.eval x)) (po (a.eval x)) n) d (ql hA) hu hd (by rw[nG];exact hi);generalize pb (a.eval x)=b at *;generalize po (a.eval x)=o at *;unfold Oper.wp execOp;simp only[hx,Instr.loadAt,Instr.sureAddr,Sem.run_bind,Sem.run_pure,Result.andThen_ok,hr];rfl
theorem Gi{e:Nat}{ie:TypeInfo}(hu:P.underlying T=some (.slice e))(hie:P.info? e=some ie)(hz:ie.zero=some z)(hn:ie.size=n)(h0:0<n)(h1:n<=1000)
  (hx1:DV n (a.eval x)=true):Oper.wp P { dst:=dst,op:=.buildSlice T 1 #[(0,x)],type:=ty,pos:=pos,after:=after,guard:=guard } a w K Q=K (a.put dst (Jn w.heap.size 1 1)) (w.alloc (.cells (ag (a.eval x)) e)):=by
 obtain⟨hx,hs,-⟩:=Vt hx1;generalize hc:ag (a.eval x)=c at *;subst hn;have hf:=Great.fill_whole (s:=ie.size) h0 [.agg c] ((Array.range (1*ie.size)).map (z.cells[·%z.cells.size]!)) (by intro v hv;simp at hv;rw[hv];exact hs) (by simp);have hb:=run_buildSlice (P:=P) w T e 1 #[(0,.agg c)] c ie z hu hie hz (by omega) (by omega) (by
  simp only[zipIdx_cons,zipIdx_nil,map_cons,map_nil,flatMap_cons,flatMap_nil,append_nil]at hf
  rw[show (Value.agg c).cells.toList.toArray=c by simp[Value.cells]]at hf
  exact hf)
 unfold Oper.wp execOp;simp only[map_toArray,map_cons,map_nil,hx,Sem.run_bind,hb,Result.andThen_ok];rfl
def pR(w:World)(b n:Nat):Bool:=match w.heap[b]? with
 | some (.cells c _ (0,0))=>c.size==n
 | _=>false
theorem zu{w b cs T}(h:aG w b cs T):pR w b cs.length=true:=by simp[pR,show w.heap[b]?=_ from h]
theorem mF(w:World)(c:Array Value)(t n:Nat)(hc:c.size=n):pR (w.alloc (.cells c t)) w.heap.size n=true:=by
 subst hc;have:aG (w.alloc (.cells c t)) w.heap.size c.toList t:=by simpa using aG.new w c.toList t
 have:=zu this;simpa using this
theorem Gj(hi:(P.info? T).map (·.size)=some n)
  (hx:a.eval x=.pointer (some ⟨pb (a.eval x),0,none⟩)) (hy1:DV n (a.eval y)=true) (hr:pR w (pb (a.eval x)) n=true):Oper.wp P { dst:=dst,op:=.store T x y,type:=ty,pos:=pos,after:=after,guard:=guard } a w K Q=K (a.put dst undef) (w.setRow (pb (a.eval x)) (ag (a.eval y))):=by
 obtain⟨hy,hs,h1⟩:=Vt hy1;generalize pb (a.eval x)=b at *;generalize ag (a.eval y)=c at *;unfold pR at hr;split at hr
 ·rename_i old t hw;have hr2:=run_storeVar_row (P:=P) w b t T old c hw (by rw[hs];exact hi) (by have h2:old.size=n:=(by simpa using hr);omega) h1;unfold Oper.wp execOp;simp only[hx,hy,Instr.storeAt,Instr.sureAddr,Sem.run_bind,Sem.run_pure,Result.andThen_ok,hr2];rfl
 ·cases hr
theorem Gl(hz:∀w,(zeroValue T).run P w=.ok z w)
      :Oper.wp P { dst:=dst,op:=.alloc T,type:=ty,pos:=pos,after:=after,guard:=guard } a w K Q=K (a.put dst (Jx w.heap.size 0)) (w.alloc (.cells z.cells T)):=by
 unfold Oper.wp execOp;simp[Instr.alloc,newVar,newRow,hz];rfl
theorem rU(w:World)(c:List Value)(t n:Nat)(hc:c.length=n):iQ (w.alloc (.cells c.toArray t)) w.heap.size 0 n=c:=by subst hc;exact(dF (aG.new w c t).range).1
theorem zx(w:World)(c:List Value)(t n:Nat)(hc:c.length=n):rQ (w.alloc (.cells c.toArray t)) w.heap.size 0 n=true:=by subst hc;exact(dF (aG.new w c t).range).2
theorem kG(h:rQ w b o n=true)(A:Obj):iQ (w.alloc A) b o n=iQ w b o n:=by
 have:=World.rangeAt_alloc (ql h) A;have:=(dF this).1
 rwa [nG]at this
theorem nH(h:rQ w b o n=true)(A:Obj):rQ (w.alloc A) b o n=true:=by
 have:=World.rangeAt_alloc (ql h) A;have:=(dF this).2
 rwa [nG]at this
theorem pU(w:World)(c c':Array Value)(t:TypeId):(w.alloc (.cells c t)).setRow w.heap.size c'=w.alloc (.cells c' t):=World.setRow_alloc_new w c c' t
theorem aI6
  (hx:a.eval x=.pointer (some ⟨pb (a.eval x),po (a.eval x),none⟩)) (hA:rQ w (pb (a.eval x)) (po (a.eval x)) 60=true):Oper.wp prog { dst:=dst,op:=.load 200 x,type:=ty,pos:=pos,after:=after,guard:=guard } a w K Q=K (a.put dst (.agg (iQ w (pb (a.eval x)) (po (a.eval x)) 60).toArray)) w:=Jd underlying200 rfl aIz hx hA
theorem aI7
  (hx:DV 60 (a.eval x)=true):Oper.wp prog { dst:=dst,op:=.buildSlice 81 1 #[(0,x)],type:=ty,pos:=pos,after:=after,guard:=guard } a w K Q=K (a.put dst (Jn w.heap.size 1 1)) (w.alloc (.cells (ag (a.eval x)) 200)):=by
 obtain⟨i0,af,hz0,hz1,hz2⟩:=info_parts aI5;exact Gi underlying81 af hz0 hz1 (by omega) (by omega) hx
theorem aI0
  (hx:a.eval x=.pointer (some ⟨pb (a.eval x),0,none⟩)) (hy:DV 60 (a.eval y)=true) (hr:pR w (pb (a.eval x)) 60=true):Oper.wp prog { dst:=dst,op:=.store 200 x y,type:=ty,pos:=pos,after:=after,guard:=guard } a w K Q=K (a.put dst undef) (w.setRow (pb (a.eval x)) (ag (a.eval y))):=Gj aIz hx hy hr
theorem aI1:Oper.wp prog { dst:=dst,op:=.alloc 200,type:=ty,pos:=pos,after:=after,guard:=guard } a w K Q=K (a.put dst (Jx w.heap.size 0)) (w.alloc (.cells (hc []).toArray 200)):=Gl (z:=.agg (hc []).toArray) zeroValue200
theorem Lh(h:List Bool):(hc h).toArray.size=60:=by simp[eH]
theorem aCT(h:List Bool):DV 60 (.agg (hc h).toArray)=true:=by
 unfold DV;rw[Bool.and_eq_true];exact⟨by simp[eH],all_oneCell_toArray (BJ h)⟩
theorem Py(w:World)(h:List Bool):pR (w.alloc (.cells (hc h).toArray 200)) w.heap.size 60=true:=mF w _ _ _ (Lh h)
theorem aJl:prog.plainKey 4=true:=by kernel_rfl
theorem aJ0:prog.cellsOf 4=1:=by kernel_rfl
theorem TQ(d:Nat)(a b:Bool)(w:World):(Op.equalIn (d+1) 4 (.bool a) (.bool b)).run prog w=.ok (a==b) w:=by
 simp[Op.equalIn,run_underlying underlying4]
theorem xh(d:Nat)(xs ys:List Bool)(w:World):∀is:List Nat,(∀i∈is,i<xs.length∧i<ys.length)->(Op.eqItems (d+1) 4 1 (xs.map Value.bool).toArray (ys.map Value.bool).toArray is).run prog w=.ok (is.all fun i=>xs[i]?==ys[i]?) w
 | [],_=>by simp[Op.eqItems]
 | i::is,h=>by
  obtain⟨h1,h2⟩:=h i (by simp);have p1:=run_part_plain (P:=prog) w aJl (xs:=(xs.map Value.bool).toArray) (off:=i*1) (v:=.bool xs[i]) (by simp[h1]);have p2:=run_part_plain (P:=prog) w aJl (xs:=(ys.map Value.bool).toArray) (off:=i*1) (v:=.bool ys[i]) (by simp[h2]);have ih:=xh d xs ys w is (fun j hj=>h j (by simp[hj]));simp only[Op.eqItems,Sem.run_bind,p1,p2,Result.andThen_ok,TQ];rw[all_cons,bG h1,bG h2];cases hq:(xs[i]==ys[i])
  ·have:(some xs[i]==some ys[i])=false:=by simpa using hq
   simp[this]
  ·have:(some xs[i]==some ys[i])=true:=by simpa using hq
   simp only[this,Bool.not_true,Bool.false_eq_true,if_false,Bool.true_and];exact ih
theorem yR[DecidableEq α](xs ys:List α)(n:Nat)(hx:xs.length=n)(hy:ys.length=n):((range n).all fun i=>xs[i]?==ys[i]?)=decide (xs=ys):=by
 rw[Bool.eq_iff_iff,all_eq_true,decide_eq_true_iff];constructor
 ·intro h;apply ext_getElem?;intro i;by_cases hi:i<n
  ·have:=h i (by simpa using hi);simpa using this
  ·rw[getElem?_eq_none (by omega),getElem?_eq_none (by omega)]
 ·rintro rfl i _;simp
theorem aCf(x h:List Bool)(hx:x.length=60)(hh:h.length=60)(w:World):(Op.equalIn 10000 200 (.agg (hc x).toArray) (.agg (hc h).toArray)).run prog w=.ok (decide (x=h)) w:=by
 obtain⟨i0,af,-⟩:=info_parts aIY;rw[run_equalIn_array w 9999 _ _ underlying200 af,aJ0];unfold hc;rw[BH hx,BH hh,xh 9998 x h w (range 60) (fun i hi=>by have:=mem_range.1 hi;omega),yR x h 60 hx hh]
attribute [local go_sem ↓] Go.wp_at_zero Go.wp_at_succ
theorem TR(w:World)(a1 a2:Option Addr)(n1 c1 n2 c2:Nat)(kh:Value)(k:dI)(kind st:Nat)(hh:Row Pj w kh k.hits)(h6:∀h∈k.hits,h.length=60)(hk:kind<k.hits.length)(hs:st<60)(hl:k.hits.length<=1000):J1 91 #[.agg #[.slice a1 n1 c1,.slice a2 n2 c2,kh],I kind,I st] w fun e w'=>e=.returned (.bool (lX k kind st))∧Mod No w w':=by
 obtain⟨g,cap,rfl,hg,hcap⟩:=hh.form (by omega);obtain⟨h,hhk⟩:∃h,k.hits[kind]?=some h:=⟨k.hits[kind],bG hk⟩;have hl6:=h6 h (iI hhk);obtain⟨b,hb⟩:∃b,h[st]?=some b:=⟨h[st]'(by omega),bG _⟩;have hv:lX k kind st=b:=by
  unfold lX;simp[getD_eq_getElem?_getD,hhk,hb]
 rw[hv];have q:w.cell? (J g (kind*60+st))=some (.bool b):=hh.cell kind st hhk (aAo (by rw[BH hl6];exact hb));obtain⟨n,hn⟩:=eX k.hits.length;rw[<-hn]at hcap hk hl ⊢;have e1:decide ((kind:Int)<0)=false:=lT (by omega);have e2:decide ((n:Int)<=kind)=false:=lT (by omega);have e3:decide ((st:Int)<0)=false:=lT (by omega);have e4:decide ((60:Int)<=(st:Int))=false:=lT (by omega);have hki:(kind:Int)<n:=by omega
 have hsi:(st:Int)<60:=by omega
 have hgw:¬g=w.heap.size:=by omega
 go_enter func91,ntmps91;go_wp2;go_ret;exact⟨rfl,(Mod.refl _ _).alloc _⟩
end
section
open Go.RowKit
attribute [local go_sem ↓] Go.wp_at_zero Go.wp_at_succ aI6 aI0 aI1 aI7
attribute [local go_sem] Pq Pv Px lM pO mF rU zx kG nH pU eH Lh aCT Py
theorem Pz(h:List Bool):∀(hs:List (List Bool)) (i j:Nat),j<hs.length->(∀q,q<j->hs[q]?≠some h)->hs[j]?=some h->M2.find hs h i=i+j
 | [],i,j,hj,_,_=>by simp at hj
 | x::xs,i,0,hj,_,he=>by
  rw[M2.find];simp at he;rw[aP he];omega
 | x::xs,i,j+1,hj,hn,he=>by
  rw[M2.find];have h0:=hn 0 (by omega);simp at h0;rw[aU h0,Pz h xs (i+1) j (by simpa using hj) (fun q hq=>by have:=hn (q+1) (by omega);simpa using this) (by simpa using he)];omega
theorem Je(h:List Bool):∀(hs:List (List Bool)) (i:Nat),(∀q,q<hs.length->hs[q]?≠some h)->M2.find hs h i=i+hs.length
 | [],i,_=>by simp[M2.find]
 | x::xs,i,hn=>by
  rw[M2.find];have h0:=hn 0 (by simp);simp at h0;rw[aU h0,Je h xs (i+1) (fun q hq=>by have:=hn (q+1) (by simp;omega);simpa using this)];simp;omega
theorem aFh:(Value.agg (hc []).toArray).cells.size=60:=rfl
theorem QA(w:World)(b:Nat)(ka kw kh:Value)(hits:List (List Bool))(h:List Bool)(hB:aG w b [ka,kw,kh] 83)(hh:Row Pj w kh hits)(h6:∀x∈hits,x.length=60)(hl:h.length=60)(hn0:0<hits.length)(hn1:hits.length<=1000):J1 90 #[Jx b 0,.agg (hc h).toArray] w fun e w'=>e=.returned (I (M2.find hits h 0:Int))∧∃Y9,aG w' b [ka,kw,Y9] 83∧Row Pj w' Y9 (if M2.find hits h 0=hits.length then hits++[h] else hits)∧aN w kh Y9∧Mod (fun k=>k=b∨kh.ownBlock=some k) w w':=by
 obtain⟨g,cap,rfl,hg,hcap⟩:=hh.form hn0;obtain⟨n,hn⟩:=eX hits.length;rw[<-hn]at hh hcap hn0 hn1;have HN:=qH hn;have H6:=qH h6;have HL:=qH hl;have HB:Hd (aG w b [ka,kw,Jn g n cap] 83):=by have:=hB;rw[hn];exact this
 have HH:=qH hh;have c2:=HB.o.aS 2 rfl;have hblt:=HB.o.lt;rw[<-hn]at hB ⊢;obtain⟨F,hF⟩:=eX (M2.find hits h 0);rw[<-hF];obtain⟨H2,hH2⟩:∃H2,H2=if F=n then hits++[h] else hits:=⟨_,rfl⟩
 rw[<-hH2];have HF:=qH (a2 hF hH2);clear hh h6 hl hB hn hF hH2;go_enter func90,ntmps90;go_wp2_with fail;have HZ:Hd (∀o,Mod No w (w.alloc o) ):=fun o=>(Mod.refl _ _).alloc o
 have HZ2:Hd (aG (w.alloc (.cells (hc h).toArray 200)) w.heap.size (hc h) 200):=heap_alloc_new w _;go_loopg [12] n (fun gh v12 wr=>∃i:Nat,v12=I i∧i<=n∧gh=n-i∧Mod No w wr∧aG wr w.heap.size (hc h) 200∧∀q,q<i->hits[q]?≠some h)
 case atStart=>exact⟨0,rfl,by omega,rfl,HZ.o _,HZ2.o,fun q hq=>by omega⟩
 case round=>
  obtain⟨i,rfl,hin,hgh,hm,hX,hno⟩:=hrel;have HM:=qH hm;have HX:=qH hX;have HNO:=qH hno;by_cases hlt:i<n
  ·obtain⟨x,hx⟩:∃x,hits[i]?=some x:=⟨hits[i]'(by have:=HN.o;omega),bG _⟩;have hrow:=HH.o.no hm;have hr1:wr.rangeAt g (i*60) (hc x):=hrow.range hx;have hX2:=hX;have hi1:(i:Int)<n:=by omega
   have heq:=aCf x h (H6.o x (iI hx)) HL.o;have HXI:=qH hx;have hnw:w.heap.size≠wr.heap.size:=by have:=hX.lt;omega
   have hr2:=hX2.range;have q1:=dF hr1;have q2:=dF hr2;rw[eH]at q1 q2;obtain⟨q1,q3⟩:=q1;obtain⟨q2,q4⟩:=q2;by_cases hxh:x=h
   ·subst hxh;have hde:decide (x=x)=true:=decide_eq_true rfl;have HFI:Hd (F=i∧H2=hits):=by
     have e:F=i:=by rw[HF.o.1,Pz x hits 0 i (by have:=HN.o;omega) HNO.o HXI.o];omega
     exact⟨e,by rw[HF.o.2,aU (by omega)]⟩
    rw[hde]at heq;go_wp2;go_ret;exact⟨by rw[HFI.o.1];rfl,_,(HB.o.mod HM.o (fun x=>x)).alloc _,by rw[HFI.o.2];exact(HH.o.no HM.o).alloc _,aN.refl _ _,(HM.o.more (fun _ _ x=>x.elim)).alloc _⟩
   ·have hde:=lT hxh;rw[hde]at heq;go_wp2;go_roundg (n-(i+1))
    case measure=>omega
    case rel=>exact⟨i+1,by go_num,by omega,rfl,HM.o.alloc _,HX.o.alloc _,fun q hq e=>by
     by_cases hqi:q<i
     ·exact HNO.o q hqi e
     ·have:q=i:=by omega
      rw[this,HXI.o]at e
      exact hxh (dY e)⟩
  ·obtain rfl:i=n:=by omega
   have HFI:Hd (F=i∧H2=hits++[h]):=by
    have e:F=i:=by rw[HF.o.1,Je h hits 0 (fun q hq=>HNO.o q (by have:=HN.o;omega))];have:=HN.o;omega
    exact⟨e,by rw[HF.o.2,aP e]⟩
   obtain⟨i0,af,hz0,hz1,hz2⟩:=info_parts aI5;have hB1:=HB.o.mod hm (fun x=>x);have hH1:=HH.o.no hm;have q2:=dF hX.range;rw[eH]at q2;obtain⟨q2,q4⟩:=q2;have d2:=hB1.cell 2 rfl;have K2:=hB1.aS 2 rfl;have F2:=hB1.dQ 2;have hown:wr.ownsRow 0 200 60 (Jn g i cap) i (hits.flatMap Pj.f):=by have:=hH1;unfold Row at this;rw[<-HN.o]at this;exact this
   have hb1:=hB1.lt;have hbg:some b≠(Jn g i cap).ownBlock:=fun e=>hB1.apart hH1 (by decide) e.symm
   have hX1:=hX.lt;go_wp2_with fail
   go_region_law (refine step_append_lies _ (by rfl) _ _ _ (by rfl) 0 200 i0 _ 60 60 underlying81 af hz0 hz1 hz2 aFh (by omega) (Jn g i cap) i (hits.flatMap Pj.f) (by rfl) ((hown.alloc _).drew) (J wr.heap.size 0) 1 1 (hc h) (by rfl) (by rw[eH]) (World.news_of_block (cs:=(hc h).toArray) (t:=200) (fr:=(0,0)) (heap_alloc_new wr _)) (BJ h) (by omega) (by unfold maxLen;omega) (by omega) (by simp) (wr.heap.size+1) (by simp) ?_;intro gg cap2 w7 gV hgrow hat fJ;have s0:=(hgrow.cell_far (J b 2) (by simp;omega) hbg).trans (K2 _);have s1:=(hgrow.frozen_far (J b 2) (by simp;omega) hbg).trans (F2 _))
   all_goals
    have Vu:=((hB1.alloc _).drew).grown hgrow hbg;have vY:Row Pj w7 (Jn gg (i+1) cap2) (hits++[h]):=by
     refine Row.snoc ?_;rw[<-HN.o];exact gV
    have Cb:aN w (Jn g i cap) (Jn gg (i+1) cap2):=by
     intro g1 hg1;cases hg1;rcases hat with h | h
     ·exact Or.inl h
     ·exact Or.inr (by have:=HM.o.size;show w.heap.size<=gg;omega)
    have sH:Mod (fun k=>k=b∨(Jn g i cap).ownBlock=some k) w w7:=(((HM.o.more (fun _ _ x=>x.elim)).alloc _).drew).grown hgrow (fun g1 hg1 _=>Or.inr hg1);have HR:Hd (aG (w7.setCell (J b 2) (Jn gg (i+1) cap2)) b [ka,kw,Jn gg (i+1) cap2] 83∧Row Pj (w7.setCell (J b 2) (Jn gg (i+1) cap2)) (Jn gg (i+1) cap2) (hits++[h])∧aN w (Jn g i cap) (Jn gg (i+1) cap2)∧Mod (fun k=>k=b∨(Jn g i cap).ownBlock=some k) w (w7.setCell (J b 2) (Jn gg (i+1) cap2))):=⟨Vu.set 2 _,vY.other (a:=J b 2) (Vu.apart vY (by decide)) _,Cb,sH.setCell (a:=J b 2) (fun _=>Or.inl rfl) _⟩;have z2:=HR.o.1.cell 2 rfl;go_wp2;go_ret;exact⟨by rw[HFI.o.1];exact bQ (by omega),_,HR.o.1,by rw[HFI.o.2];exact HR.o.2.1,HR.o.2.2.1,HR.o.2.2.2⟩
end
section
open Go.RowKit
variable {w w7:World} {n cap i gg l:Nat} {α:Type} {v v2:Value} {a:M2.Auto} {k k':dI}
def Jf:Enc (List UInt8):=⟨9,1,fun s=>[.string ⟨s.toArray⟩],fun _=>rfl⟩
theorem aIG:(prog.info? 9).map (fun i=>(i.zero,i.size,i.bytes))=some (some (.string ⟨#[]⟩),1,16):=by kernel_rfl
theorem Jf.cell{g:Nat}{xs:List (List UInt8)}(h:Row Jf w (Jn g n cap) xs){x:List UInt8}(hx:xs[i]?=some x):w.cell? (J g i)=some (.string ⟨x.toArray⟩):=by
 have:=h.cell i 0 hx (u:=.string ⟨x.toArray⟩) rfl;have e:i*Jf.c+0=i:=by show i*1+0=i;omega
 rwa [e]at this
theorem Row.far{β:Type}{E:Enc α}{E':Enc β}{v':Value}{xs:List α}{ys:List β}(h:Row E w v xs)(h':Row E' w v' ys)(ht:E.T≠E'.T):v.ownBlock=none∨v.ownBlock≠v'.ownBlock:=by
 cases e:v.ownBlock with
 | none=>exact .inl rfl
 | some g=>exact .inr fun e2=>h.apart h' ht e e2.symm
theorem Row.open{E:Enc α}{xs:List α}(h:Row E w v xs)(hn:xs.length=n):∃a cap,v=.slice a n cap∧n<=cap∧w.ownsRow 0 E.T E.c (.slice a n cap) n (xs.flatMap E.f):=by
 obtain⟨a,cap,hv,-,hc,-⟩:=h.any;rw[hn]at hv hc;refine⟨a,cap,hv,hc,?_⟩;have h2:w.ownsRow 0 E.T E.c v xs.length (xs.flatMap E.f):=h
 rwa [hn,hv]at h2
theorem jq{E:Enc α}{xs:List α}{x:α}{nc:List Value}(hn:xs.length=n)(hx:nc=E.f x)(h:w7.ownsRow 0 E.T E.c (Jn gg (n+1) cap) (n+1) (xs.flatMap E.f++nc)):Row E w7 (Jn gg (n+1) cap) (xs++[x]):=by
 refine Row.snoc ?_;rw[hn,<-hx];exact h
theorem gW{H:Nat}(hat:v.ownBlock=some gg∨gg=H)(hH:w.heap.size<=H):aN w v (Jn gg n cap):=by
 intro g1 hg1;cases hg1;rcases hat with h | h
 ·exact Or.inl h
 ·exact Or.inr (by show w.heap.size<=gg;omega)
structure KOk(k:dI):Prop where
 six:∀h∈k.hits,h.length=60
 len:k.words.length=k.hits.length
 pos:0<k.hits.length
 wl:∀x∈k.words,x.length<=k.words.length
structure aAq(a:M2.Auto)(i l:Nat)(k:dI)(n:Nat)(k':dI)(h h':List Bool):Prop where
 hi:k.hits[i]?=some h
 ah:bF h l a.nx 60=some h'
 fn:n=M2.find k.hits h' 0
 ht:k'.hits=if n=k.hits.length then k.hits++[h'] else k.hits
 wo:(n=k.words.length∧∃x,k.words[i]?=some x∧k'.words=k.words++[aT l++x])∨(n≠k.words.length∧k'.words=k.words)
 ad:k'.ahead=k.ahead
theorem Gm(h:qA a i l k=some (n,k')):∃h1 h2,aAq a i l k n k' h1 h2:=by
 unfold qA at h;split at h
 ·cases h
 ·rename_i h1 hi;split at h
  ·cases h
  ·rename_i h2 ha
   dsimp only at h
   split at h
   ·rename_i hw;split at h
    ·cases h
    ·rename_i x hx;simp only[Option.some.injEq,Prod.mk.injEq]at h;obtain⟨h3,h4⟩:=h;subst h3;exact⟨h1,h2,hi,ha,rfl,by rw[<-h4],Or.inl ⟨hw,x,hx,by rw[<-h4]⟩,by rw[<-h4]⟩
   ·rename_i hw;simp only[Option.some.injEq,Prod.mk.injEq]at h;obtain⟨h3,h4⟩:=h;subst h3;exact⟨h1,h2,hi,ha,rfl,by rw[<-h4],Or.inr ⟨hw,by rw[<-h4]⟩,by rw[<-h4]⟩
theorem aAq.ok{h h':List Bool}(hs:aAq a i l k n k' h h')(hk:KOk k):KOk k'∧k'.hits.length<=k.hits.length+1∧k.hits.length<=k'.hits.length:=by
 have hl:=rP h l 60 a.nx h' hs.ah;rcases hs.wo with ⟨hn,x,hx,hw⟩ | ⟨hn,hw⟩
 ·have e:k'.hits=k.hits++[h']:=by rw[hs.ht,aP (by rw[hn,hk.len])]
  refine⟨⟨?_,?_,?_,?_⟩,?_,?_⟩
  ·intro y hy;rw[e]at hy;rcases mem_append.1 hy with h1 | h1
   ·exact hk.six y h1
   ·simp at h1;rw[h1];exact hl
  ·rw[hw,e];simp[hk.len]
  ·rw[e];simp
  ·intro y hy;rw[hw]at hy ⊢;rcases mem_append.1 hy with h1 | h1
   ·have:=hk.wl y h1;simp;omega
   ·simp at h1;have:=hk.wl x (iI hx);rw[h1];simp[aT];omega
  ·rw[e];simp
  ·rw[e];simp
 ·have e:k'.hits=k.hits:=by rw[hs.ht,aU (by rw[<-hk.len];exact hn)]
  exact⟨⟨by rw[e];exact hk.six,by rw[hw,e];exact hk.len,by rw[e];exact hk.pos,by rw[hw];exact hk.wl⟩,by rw[e];omega,by rw[e];omega⟩
theorem aDP{f:Nat}{r:Option dI}(hi:¬k.hits.length<=i)(h:jH a (f+1) i k=some r):∃(Ks:Nat->dI) (Nv:Nat->Nat),Ks 0=k∧(∀l,l<4->qA a i l (Ks l)=some (Nv l,Ks (l+1)))∧((24<(Ks 4).hits.length∧r=none)∨(¬24<(Ks 4).hits.length∧jH a f (i+1) { Ks 4 with ahead:=(Ks 4).ahead++[⟨Nv 0,Nv 1,Nv 2,Nv 3⟩] }=some r)):=by
 rw[jH,aU hi]at h;split at h
 ·cases h
 ·rename_i p k1 h1;split at h
  ·cases h
  ·rename_i q k2 h2;split at h
   ·cases h
   ·rename_i u k3 h3;split at h
    ·cases h
    ·rename_i v k4 h4;refine⟨fun n=>match n with | 0=>k | 1=>k1 | 2=>k2 | 3=>k3 | _=>k4,fun n=>match n with | 0=>p | 1=>q | 2=>u | _=>v,rfl,fun l hl=>?_,?_⟩
     ·match l,hl with
      | 0,_=>exact h1
      | 1,_=>exact h2
      | 2,_=>exact h3
      | 3,_=>exact h4
     ·split at h
      ·rename_i hb;exact Or.inl ⟨hb,(dY h).symm⟩
      ·rename_i hb;exact Or.inr ⟨hb,h⟩
structure KI(w:World)(vx vh:Value)(a:M2.Auto)(C:Nat)(ka kw kh:Value)(k:dI)(wr:World):Prop where
 box:aG wr w.heap.size [vx,vh] 138
 res:aG wr (w.heap.size+1) [.slice none 0 0,.slice none 0 0,.slice none 0 0] 83
 kin:aG wr C [ka,kw,kh] 83
 ax:Row nC wr vx a.nx
 ah:Row nC wr ka k.ahead
 wo:Row Jf wr kw k.words
 hi:Row Pj wr kh k.hits
 md:Mod No w wr
 fa:∀g,ka.ownBlock=some g->w.heap.size<=g
 fw:∀g,kw.ownBlock=some g->w.heap.size<=g
 fh:∀g,kh.ownBlock=some g->w.heap.size<=g
 ox:∀g,vx.ownBlock=some g->g<w.heap.size
 oC:w.heap.size+1<C
section
variable {w:World} {vx vh:Value} {a:M2.Auto} {C:Nat} {ka kw kh:Value} {k:dI} {wr wr':World}
theorem KI.no(h:KI w vx vh a C ka kw kh k wr)(hm:Mod No wr wr'):KI w vx vh a C ka kw kh k wr':=⟨h.box.mod hm (fun x=>x),h.res.mod hm (fun x=>x),h.kin.mod hm (fun x=>x),h.ax.no hm,h.ah.no hm,h.wo.no hm,h.hi.no hm,h.md.no hm,h.fa,h.fw,h.fh,h.ox,h.oC⟩
theorem KI.side{Q:Nat}{cs:List Value}{T:Nat}(h:KI w vx vh a C ka kw kh k wr)(hQ:aG wr Q cs T)(hm:Mod (fun k=>k=Q) wr wr')(h0:w.heap.size<=Q)(hT1:T≠138)(hT2:T≠83)(ha:ka.ownBlock≠some Q)(hw:kw.ownBlock≠some Q)(hh:kh.ownBlock≠some Q):KI w vx vh a C ka kw kh k wr':=⟨h.box.mod hm (fun e=>hQ.diff h.box hT1 e.symm),h.res.mod hm (fun e=>hQ.diff h.res hT2 e.symm),h.kin.mod hm (fun e=>hQ.diff h.kin hT2 e.symm),h.ax.mod hm (fun g hg e=>by have:=h.ox g hg;omega),h.ah.mod hm (fun g hg e=>ha (by rw[hg,e])),h.wo.mod hm (fun g hg e=>hw (by rw[hg,e])),h.hi.mod hm (fun g hg e=>hh (by rw[hg,e])),h.md.trans' hm (fun k hk e=>by omega),h.fa,h.fw,h.fh,h.ox,h.oC⟩
theorem KI.num{Y9:Value}{hits:List (List Bool)}(h:KI w vx vh a C ka kw kh k wr)(hB:aG wr' C [ka,kw,Y9] 83)(hr:Row Pj wr' Y9 hits)(hf:aN wr kh Y9)(hm:Mod (fun k=>k=C∨kh.ownBlock=some k) wr wr'):KI w vx vh a C ka kw Y9 { k with hits:=hits } wr':=by
 have hC:=h.oC;refine⟨h.box.mod hm ?_,h.res.mod hm ?_,hB,h.ax.mod hm ?_,h.ah.mod hm ?_,h.wo.mod hm ?_,hr,h.md.trans' hm ?_,h.fa,h.fw,?_,h.ox,h.oC⟩
 ·rintro(e | e)
  ·exact h.box.diff h.kin (by decide) e
  ·exact h.box.apart h.hi (by decide) e
 ·rintro(e | e)
  ·omega
  ·exact h.res.apart h.hi (by decide) e
 ·rintro g hg (e | e)
  ·exact h.kin.apart h.ax (by decide) (by rw[hg,e])
  ·exact h.ax.apart h.hi (by decide) hg e
 ·rintro g hg (e | e)
  ·exact h.kin.apart h.ah (by decide) (by rw[hg,e])
  ·exact h.ah.apart h.hi (by decide) hg e
 ·rintro g hg (e | e)
  ·exact h.kin.apart h.wo (by decide) (by rw[hg,e])
  ·exact h.wo.apart h.hi (by decide) hg e
 ·rintro g hg (e | e)
  ·omega
  ·have:=h.fh g e;omega
 ·intro g hg;rcases hf g hg with e | e
  ·exact h.fh g e
  ·have:=h.md.size;omega
theorem KI.word{ws:List (List UInt8)}(h:KI w vx vh a C ka kw kh k wr)(hg:wr.grownBy w7 kw.ownBlock)(hrow:Row Jf w7 v2 ws)(hf:aN wr kw v2):KI w vx vh a C ka v2 kh { k with words:=ws } (w7.setCell (J C 1) v2):=by
 have kb:∀{b:Nat} {cs:List Value} {T:Nat},aG wr b cs T->T≠9->aG w7 b cs T:=fun hb ht=>hb.grown hg (fun e=>hb.apart h.wo ht e.symm)
 have hK:=kb h.kin (by decide);have hC:=h.oC;have r1:=h.ax.grown hg (h.ax.far h.wo (by decide));have r2:=h.ah.grown hg (h.ah.far h.wo (by decide));have r3:=h.hi.grown hg (h.hi.far h.wo (by decide));have sH:=h.md.grown hg fun g e hlt=>by have:=h.fw g e;omega
 refine⟨(kb h.box (by decide)).other (a:=J C 1) (h.box.diff h.kin (by decide)) _,(kb h.res (by decide)).other (a:=J C 1) (by show w.heap.size+1≠C;omega) _,hK.set 1 v2,r1.other (a:=J C 1) (hK.apart r1 (by decide)) _,r2.other (a:=J C 1) (hK.apart r2 (by decide)) _,hrow.other (a:=J C 1) (hK.apart hrow (by decide)) _,r3.other (a:=J C 1) (hK.apart r3 (by decide)) _,sH.setCell (a:=J C 1) (fun e=>absurd e (by show ¬C<w.heap.size;omega)) _,h.fa,fun g hg=>?_,h.fh,h.ox,h.oC⟩;rcases hf g hg with e | e
 ·exact h.fw g e
 ·have:=h.md.size;omega
theorem KI.row{rs:List aI.R4}(h:KI w vx vh a C ka kw kh k wr)(hg:wr.grownBy w7 ka.ownBlock)(hrow:Row nC w7 v2 rs)(hf:aN wr ka v2):KI w vx vh a C v2 kw kh { k with ahead:=rs } (w7.setCell (J C 0) v2):=by
 have kb:∀{b:Nat} {cs:List Value} {T:Nat},aG wr b cs T->T≠102->aG w7 b cs T:=fun hb ht=>hb.grown hg (fun e=>hb.apart h.ah ht e.symm)
 have hK:=kb h.kin (by decide);have hC:=h.oC;have r1:Row nC w7 vx a.nx:=h.ax.grown hg (by
  cases e:vx.ownBlock with
  | none=>exact .inl rfl
  | some g=>exact .inr fun e2=>by have:=h.ox g e;have:=h.fa g e2.symm;omega)
 have r2:=h.wo.grown hg (h.wo.far h.ah (by decide));have r3:=h.hi.grown hg (h.hi.far h.ah (by decide));have sH:=h.md.grown hg fun g e hlt=>by have:=h.fa g e;omega
 refine⟨(kb h.box (by decide)).other (a:=J C 0) (h.box.diff h.kin (by decide)) _,(kb h.res (by decide)).other (a:=J C 0) (by show w.heap.size+1≠C;omega) _,hK.set 0 v2,r1.other (a:=J C 0) (hK.apart r1 (by decide)) _,hrow.other (a:=J C 0) (hK.apart hrow (by decide)) _,r2.other (a:=J C 0) (hK.apart r2 (by decide)) _,r3.other (a:=J C 0) (hK.apart r3 (by decide)) _,sH.setCell (a:=J C 0) (fun e=>absurd e (by show ¬C<w.heap.size;omega)) _,fun g hg=>?_,h.fw,h.fh,h.ox,h.oC⟩;rcases hf g hg with e | e
 ·exact h.fa g e
 ·have:=h.md.size;omega
end
end
end Go.Proofs.YtoebidlghdidoaaGreatDoor
