import Derived.Test.YtoebidlghdidoaaGreatDoorAI
import Derived.WalkKit
import Derived.WalkSpells
import Derived.WalkLawsBesides
import Derived.BigQuiet
import Derived.Deep.QuietTactic
import Derived.Handy
import Derived.Deep.RegionHeld3
import Derived.Deep.AppendLies
import Derived.Deep.DrawnRows
import Derived.Laws.IdiomStrings
import Derived.Lib.UnsafeStr
import Derived.Lib.Strings
import Derived.Lib.IndexBytes
import Derived.OwnWalk
import Derived.KernelRfl
import Derived.Test.YtoebidlghdidoaaGreatDoorProg
import Derived.Laws.BitsAllLaws
import Derived.Deep.LoopGhost
import Derived.Deep.CutRange
import Derived.Lib.AppendStr
import Derived.Great.BuildSlice
set_option maxHeartbeats 8000000
namespace Go.Proofs.YtoebidlghdidoaaGreatDoor
abbrev I(n:Int):Value:=.int .i64 n
abbrev J(b o:Nat):Addr:=⟨b,o,none⟩
abbrev Jn(g n c:Nat):Value:=.slice (some ⟨g,0,none⟩) n c
abbrev Jx(b o:Nat):Value:=.pointer (some ⟨b,o,none⟩)
abbrev J1(f:FuncId)(a:Array Value)(w:World)(R:Ending->World->Prop):Prop:=Calls Tryz.prog f a w R
open Th aI Tryz List
section
open Go.RowKit
variable {S S':Nat->Prop} {w w1 w2:World} {a:Addr} {row:Option Nat} {v u:Value} {g n cap b p:Nat}
theorem qH{p:Prop}(h:p):Hd p:=h
structure Mod(S:Nat->Prop)(w w':World):Prop where
 os:w'.os=w.os
 tape:w'.tape=w.tape
 output:w'.output=w.output
 size:w.heap.size<=w'.heap.size
 block:∀k,k<w.heap.size->¬S k->w'.heap[k]?=w.heap[k]?
abbrev No:Nat->Prop:=fun _=>False
theorem Mod.refl(S:Nat->Prop)(w:World):Mod S w w:=⟨rfl,rfl,rfl,dH _,fun _ _ _=>rfl⟩
theorem Mod.trans'(h1:Mod S w w1)(h2:Mod S' w1 w2)(hs:∀k,k<w.heap.size->S' k->S k):Mod S w w2:=⟨h2.os.trans h1.os,h2.tape.trans h1.tape,h2.output.trans h1.output,Nat.le_trans h1.size h2.size,fun k hk hn=>(h2.block k (Nat.lt_of_lt_of_le hk h1.size) (fun h=>hn (hs k hk h))).trans (h1.block k hk hn)⟩
theorem Mod.trans(h1:Mod S w w1)(h2:Mod S w1 w2):Mod S w w2:=h1.trans' h2 fun _ _ h=>h
theorem Mod.no(h1:Mod S w w1)(h2:Mod No w1 w2):Mod S w w2:=h1.trans' h2 fun _ _ h=>h.elim
theorem Mod.more(h:Mod S' w w1)(hs:∀k,k<w.heap.size->S' k->S k):Mod S w w1:=(Mod.refl S w).trans' h hs
theorem Mod.alloc(h:Mod S w w1)(o:Obj):Mod S w (w1.alloc o):=⟨h.os,h.tape,h.output,by simp;exact Nat.le_succ_of_le h.size,fun k hk hn=>(Below.heap_alloc _ _ _ (Nat.lt_of_lt_of_le hk h.size)).trans (h.block k hk hn)⟩
theorem Mod.setCell(h:Mod S w w1)(ha:a.block<w.heap.size->S a.block)(v:Value):Mod S w (w1.setCell a v):=⟨h.os,h.tape,h.output,by simpa [World.setCell] using h.size,fun k hk hn=>(Below.heap_setCell _ _ _ _ (fun e=>hn (by rw[e];exact ha (by rw[<-e];exact hk)))).trans (h.block k hk hn)⟩
theorem Mod.grown(h:Mod S w w1)(hg:w1.grownBy w2 row)(hr:∀g,row=some g->g<w.heap.size->S g):Mod S w w2:=⟨hg.os.trans h.os,hg.tape.trans h.tape,hg.output.trans h.output,Nat.le_trans h.size hg.size,fun k hk hn=>(hg.block k (Nat.lt_of_lt_of_le hk h.size) (fun e=>hn (hr k e.symm hk))).trans (h.block k hk hn)⟩
theorem Mod.drewN(h:Mod S w w1)(n:Nat):Mod S w (w1.drewN n):=⟨h.os,h.tape,h.output,h.size,h.block⟩
theorem Mod.drew(h:Mod S w w1):Mod S w w1.drew:=⟨h.os,h.tape,h.output,h.size,h.block⟩
theorem Mod.below(h:Mod No w w1):Below w.heap.size w w1:=⟨h.os,h.tape,h.output,h.size,fun k hk=>h.block k hk (fun x=>x)⟩
theorem Mod.of_below(h:Below w.heap.size w w1):Mod S w w1:=⟨h.os,h.tape,h.output,h.size,fun k hk _=>h.block k hk⟩
theorem Mod.rH(h:w.grownBy w1 row)(hr:∀g,row=some g->S g):Mod S w w1:=(Mod.refl S w).grown h fun g e _=>hr g e
def aG(w:World)(b:Nat)(cs:List Value)(T:Nat):Prop:=w.heap[b]?=some (.cells cs.toArray T (0,0))
theorem aG.lt{w b cs T}(h:aG w b cs T):b<w.heap.size:=(Array.getElem?_eq_some_iff.1 h).1
theorem aG.cell{w b cs T}(h:aG w b cs T)(j:Nat)(hv:cs[j]?=some v):w.cell? (J b j)=some v:=by
 simp[World.cell?,show w.heap[b]?=_ from h,hv]
theorem aG.free{w b cs T}(h:aG w b cs T)(j:Nat):w.frozen? (J b j)=false:=by simp[World.frozen?,show w.heap[b]?=_ from h]
theorem aG.aS{w b cs T}(h:aG w b cs T)(j:Nat)(hv:cs[j]?=some v)(o:Obj):(w.alloc o).cell? (J b j)=some v:=by
 have e:(w.alloc o).heap[b]?=w.heap[b]?:=Below.heap_alloc _ _ _ (Array.getElem?_eq_some_iff.1 h).1;simp[World.cell?,e,show w.heap[b]?=_ from h,hv]
theorem aG.dQ{w b cs T}(h:aG w b cs T)(j:Nat)(o:Obj):(w.alloc o).frozen? (J b j)=false:=by
 have e:(w.alloc o).heap[b]?=w.heap[b]?:=Below.heap_alloc _ _ _ (Array.getElem?_eq_some_iff.1 h).1;simp[World.frozen?,e,show w.heap[b]?=_ from h]
theorem aG.mod{w w' b cs T S}(h:aG w b cs T)(hm:Mod S w w')(hn:¬S b):aG w' b cs T:=(hm.block b h.lt hn).trans h
theorem aG.alloc{w b cs T}(h:aG w b cs T)(o:Obj):aG (w.alloc o) b cs T:=(Below.heap_alloc _ _ _ h.lt).trans h
theorem aG.drewN{w b cs T}(h:aG w b cs T)(n:Nat):aG (w.drewN n) b cs T:=h
theorem aG.drew{w b cs T}(h:aG w b cs T):aG w.drew b cs T:=h
theorem aG.set{w b cs T}(h:aG w b cs T)(j:Nat)(v:Value):aG (w.setCell (J b j) v) b (cs.set j v) T:=by
 simp[aG,World.setCell,Array.getElem?_modify,show w.heap[b]?=_ from h]
theorem aG.other{w b cs T}(h:aG w b cs T)(hne:b≠a.block)(v:Value):aG (w.setCell a v) b cs T:=(Below.heap_setCell _ _ _ _ hne).trans h
theorem aG.grown{w w' b cs T}(h:aG w b cs T)(hg:w.grownBy w' row)(hne:some b≠row):aG w' b cs T:=(hg.block b h.lt hne).trans h
theorem aG.new(w:World)(cs:List Value)(T:Nat):aG (w.alloc (.cells cs.toArray T)) w.heap.size cs T:=heap_alloc_new w _
structure Enc(α:Type) where
 T:Nat
 c:Nat
 f:α->List Value
 len:∀a,(f a).length=c
def Row{α:Type}(E:Enc α)(w:World)(v:Value)(xs:List α):Prop:=w.ownsRow 0 E.T E.c v xs.length (xs.flatMap E.f)
section
variable {α:Type} {E:Enc α} {w w':World} {v:Value} {xs:List α}
theorem Row.mod(h:Row E w v xs)(hm:Mod S w w')(hn:∀g,v.ownBlock=some g->¬S g):Row E w' v xs:=by
 refine⟨h.1,?_⟩;rcases h.2 with h2 | ⟨g,cap,cur,rfl,hg,hh,r⟩
 ·exact .inl h2
 ·exact .inr ⟨g,cap,cur,rfl,hg,(hm.block g (Array.getElem?_eq_some_iff.1 hh).1 (hn g rfl)).trans hh,r⟩
theorem Row.no(h:Row E w v xs)(hm:Mod No w w'):Row E w' v xs:=h.mod hm fun _ _ x=>x
theorem Row.lt(h:Row E w v xs)(hg:v.ownBlock=some g):g<w.heap.size:=(World.ownsRow.lt h g hg).2
theorem Row.alloc(h:Row E w v xs)(o:Obj):Row E (w.alloc o) v xs:=h.no ((Mod.refl _ _).alloc o)
theorem Row.other(h:Row E w v xs)(hne:v.ownBlock≠some a.block)(u:Value):Row E (w.setCell a u) v xs:=h.mod (S:=fun k=>k=a.block) ((Mod.refl (fun k=>k=a.block) w).setCell (a:=a) (fun _=>rfl) u) fun g hg e=>hne (by rw[hg,e])
theorem Row.grown(h:Row E w v xs)(hg:w.grownBy w' row)(hne:v.ownBlock=none∨v.ownBlock≠row):Row E w' v xs:=World.ownsRow.kept h hg hne
theorem Row.drew(h:Row E w v xs):Row E w.drew v xs:=h
theorem Row.form(h:Row E w v xs)(h0:0<xs.length):∃g cap,v=Jn g xs.length cap∧g<w.heap.size∧xs.length<=cap:=by
 rcases h.2 with ⟨_,h2⟩ | ⟨g,cap,cur,rfl,hg,hh,r⟩
 ·omega
 ·exact⟨g,cap,rfl,(Array.getElem?_eq_some_iff.1 hh).1,r.1⟩
theorem Row.any(h:Row E w v xs):∃a cap,v=.slice a xs.length cap∧(a=none∨∃g,a=some (J g 0)∧g<w.heap.size)∧xs.length<=cap∧xs.length<=maxLen:=by
 rcases h.2 with ⟨rfl,h2⟩ | ⟨g,cap,cur,rfl,hg,hh,r⟩
 ·exact⟨none,0,by rw[h2],.inl rfl,by omega,by rw[h2];unfold maxLen;omega⟩
 ·exact⟨_,cap,rfl,.inr ⟨g,rfl,(Array.getElem?_eq_some_iff.1 hh).1⟩,r.1,Nat.le_trans r.1 r.2.1⟩
theorem flat_get:∀(xs:List α) (i j:Nat) (x:α),xs[i]?=some x->j<E.c->(xs.flatMap E.f)[i*E.c+j]?=(E.f x)[j]?
 | [],i,j,x,h,_=>by simp at h
 | a::xs,0,j,x,h,hj=>by
  simp at h;subst h;rw[flatMap_cons,jG (by rw[E.len];omega),Nat.zero_mul,Nat.zero_add]
 | a::xs,i+1,j,x,h,hj=>by
  simp at h;rw[flatMap_cons,mW (by rw[E.len,Nat.succ_mul];omega),E.len,<-flat_get xs i j x h hj];congr 1;rw[Nat.succ_mul];omega
theorem addr_add(g j:Nat):((J g 0):Addr).add j=(J g j):=by unfold Addr.add;split <;> simp_all
theorem Row.cell(h:Row E w (Jn g n cap) xs)(i j:Nat){x:α}(hx:xs[i]?=some x)(hu:(E.f x)[j]?=some u):w.cell? (J g (i*E.c+j))=some u:=by
 have hj:j<E.c:=by rw[<-E.len x];exact(bU hu).1
 have:=World.ownsRow.cells h (g:=g) rfl (i*E.c+j) u (by rw[flat_get xs i j x hx hj];exact hu)
 rwa [addr_add]at this
theorem Row.free(h:Row E w (Jn g n cap) xs)(j:Nat):w.frozen? (J g j)=false:=by
 rcases h.2 with ⟨h1,_⟩ | ⟨g',cap',cur,e,hg,hh,r⟩
 ·cases h1
 ·cases e;simp[World.frozen?,hh]
theorem FY:∀(xs:List α) (i j:Nat) (x x':α) (u:Value),xs[i]?=some x->j<E.c->E.f x'=(E.f x).set j u->(xs.set i x').flatMap E.f=(xs.flatMap E.f).set (i*E.c+j) u
 | [],i,j,x,x',u,h,_,_=>by simp at h
 | a::xs,0,j,x,x',u,h,hj,he=>by
  simp at h;subst h;rw[set_cons_zero,flatMap_cons,flatMap_cons,he,Nat.zero_mul,Nat.zero_add,set_append_left _ _ (by rw[E.len];omega)]
 | a::xs,i+1,j,x,x',u,h,hj,he=>by
  simp at h;rw[set_cons_succ,flatMap_cons,flatMap_cons,FY xs i j x x' u h hj he,set_append_right _ _ (by rw[E.len,Nat.succ_mul];omega),E.len];congr 2;rw[Nat.succ_mul];omega
theorem Row.put(h:Row E w (Jn g n cap) xs)(i j:Nat){x x':α}(hx:xs[i]?=some x)(hj:j<E.c)(hu:E.f x'=(E.f x).set j u):Row E (w.setCell (J g (i*E.c+j)) u) (Jn g n cap) (xs.set i x'):=by
 have hi:=(bU hx).1;have hlt:i*E.c+j<xs.length*E.c:=by
  have:(i+1)*E.c<=xs.length*E.c:=Nat.mul_le_mul_right _ hi;rw[Nat.succ_mul]at this;omega
 refine⟨?_,?_⟩
 ·rw[FY xs i j x x' u hx hj hu];simp[h.1]
 rcases h.2 with ⟨h1,_⟩ | ⟨g',cap',cur,e,hg,hh,r1,r2,r3,r4⟩
 ·cases h1
 ·cases e;refine .inr ⟨g,cap,cur.set! (i*E.c+j) u,by rw[length_set],Nat.zero_le _,?_,by rw[length_set];exact r1,r2,by simpa using r3,?_⟩
  ·simp[World.setCell,Array.getElem?_modify,hh]
  ·rw[length_set,FY xs i j x x' u hx hj hu,<-r4];rw[show (cur.set! (i*E.c+j) u).toList=cur.toList.set (i*E.c+j) u by simp,List.take_set]
theorem Row.snoc{x:α}(h:w.ownsRow 0 E.T E.c u (xs.length+1) (xs.flatMap E.f++E.f x)):Row E w u (xs++[x]):=by
 unfold Row;simpa using h
theorem Row.nil(E:Enc α)(w:World):Row E w (.slice none 0 0) []:=World.ownsRow_nil _ _ _ _
theorem Row.of_block(h:aG w b (xs.flatMap E.f) E.T)(hl:xs.length<=maxLen):Row E w (Jn b xs.length xs.length) xs:=by
 have e:(xs.flatMap E.f).length=xs.length*E.c:=by
  clear h hl
  induction xs with
  | nil=>simp
  | cons a xs ih=>simp[E.len,ih,Nat.succ_mul,Nat.add_comm]
 exact⟨e,.inr ⟨b,xs.length,_,rfl,Nat.zero_le _,h,dH _,hl,by simpa using e,by rw[<-e];simp only[take_length]⟩⟩
end
theorem bQ{k:IntKind}{a b:Int}(h:a=b):Ending.returned (.int k a)=.returned (.int k b):=by rw[h]
theorem zZ{a b:Bool}(h:a=b):Ending.returned (.bool a)=.returned (.bool b):=by rw[h]
theorem vP(m n:Nat):((m:Int)==(n:Int))=decide (m=n):=by
 rw[Bool.eq_iff_iff];simp;omega
abbrev I5:Nat:=4294967296
theorem Di(p:Nat):aI.bit p=2^p:=Nat.one_shiftLeft p
theorem Kw(hp:p<32):aI.bit p<I5:=by
 rw[Di];exact Nat.lt_of_lt_of_le (Nat.pow_lt_pow_right (by omega) hp) (by decide)
theorem wY{a:Nat}(ha:a<I5)(hb:b<I5):a ||| b<I5:=Nat.or_lt_two_pow (n:=32) ha hb
theorem aBY(hp:p<32):(2:Int)^p%4294967296=(aI.bit p:Int):=by
 have h:=Kw hp;rw[Di]at *;have h2:((2^p:Nat):Int)=(2:Int)^p:=by simp
 unfold I5 at h;rw[<-h2];generalize 2^p=x at h;omega
theorem yK(p:Nat)(hp:p<32)(w:World):J1 139 #[I p] w fun e w'=>e=.returned (.int .u32 (aI.bit p:Int))∧w'=w:=by
 have h0:¬(p:Int)<0:=by omega
 have HS:Hd _:=aBY hp;go_enter func139,ntmps139;go_wp2;go_ret;exact⟨bQ HS.o,rfl⟩
theorem Au(s p:Nat)(hs:s<I5)(hp:p<32)(w:World):J1 142 #[.int .u32 s,I p] w fun e w'=>e=.returned (.bool (aI.has s p))∧w'=w:=by
 have h1:=yK p hp;have h2:=u32_and_nat s (aI.bit p) hs (Kw hp);have H3:Hd (aI.has s p=!(((s &&& aI.bit p:Nat):Int)==0)):=by
  show aI.has s p=_;unfold aI.has;rw[show (0:Int)=((0:Nat):Int) by rfl,vP]
 obtain⟨x,hx⟩:=eX (s &&& aI.bit p);rw[<-hx]at h2 H3;clear hx;go_enter func142,ntmps142;go_wp2_with fail;refine(h1 _).mono ?_;rintro e w1 ⟨rfl,rfl⟩;clear h1;go_wp2;go_ret;exact⟨zZ H3.o.symm,rfl⟩
theorem Aw(c:UInt8)(w:World):J1 74 #[.int .u8 c.toNat] w fun e w'=>e=.returned (.bool (lG c))∧w'=w:=by
 by_cases h1:(97:Int)<=(c.toNat:Int)
 ·by_cases h2:(c.toNat:Int)<=100
  ·have e:lG c=true:=by unfold lG;exact decide_eq_true ⟨by omega,by omega⟩
   rw[e];go_enter func74,ntmps74;go_wp2;go_ret;exact⟨rfl,rfl⟩
  ·have e:lG c=false:=by unfold lG;exact lT (by omega)
   rw[e];go_enter func74,ntmps74;go_wp2;go_ret;exact⟨rfl,rfl⟩
 ·have e:lG c=false:=by unfold lG;exact lT (by omega)
  rw[e];go_enter func74,ntmps74;go_wp2;go_ret;exact⟨rfl,rfl⟩
theorem FZ(c:UInt8)(w:World):J1 138 #[.int .u8 c.toNat] w fun e w'=>e=.returned (.bool (aI.isS c))∧w'=w:=by
 have his:=Aw c w;unfold aI.isS
 cases hl:lG c with
 | true=>
  rw[hl]at his;clear hl;go_enter func138,ntmps138;go_wp2_with fail;refine his.mono ?_;rintro e w1 ⟨rfl,rfl⟩;clear his;go_wp2;go_ret;exact⟨rfl,rfl⟩
 | false=>
  rw[hl]at his;clear hl;rw[Bool.false_or];by_cases h3:(65:Int)<=(c.toNat:Int)
  ·by_cases h2:(c.toNat:Int)<=68
   ·rw[decide_eq_true (show 65<=c.toNat∧c.toNat<=68 by omega)];go_enter func138,ntmps138;go_wp2_with fail;refine his.mono ?_;rintro e w1 ⟨rfl,rfl⟩;clear his;go_wp2;go_ret;exact⟨rfl,rfl⟩
   ·rw[lT (show ¬(65<=c.toNat∧c.toNat<=68) by omega)];go_enter func138,ntmps138;go_wp2_with fail;refine his.mono ?_;rintro e w1 ⟨rfl,rfl⟩;clear his;go_wp2;go_ret;refine⟨?_,rfl⟩;show Ending.returned (.bool (decide ((c.toNat:Int)<=68)))=_;rw[lT (by omega)]
  ·rw[lT (show ¬(65<=c.toNat∧c.toNat<=68) by omega)];go_enter func138,ntmps138;go_wp2_with fail;refine his.mono ?_;rintro e w1 ⟨rfl,rfl⟩;clear his;go_wp2;go_ret;exact⟨rfl,rfl⟩
theorem jd(c:UInt8)(w:World):J1 45 #[.int .u8 c.toNat] w fun e w'=>e=.returned (I (aI.num c:Int))∧w'=w:=by
 have his:=Aw c w;unfold aI.num
 cases hl:lG c with
 | true=>
  have h:=of_decide_eq_true hl;rw[hl]at his;clear hl;rw[aP rfl];go_enter func45,ntmps45;go_wp2_with fail;refine his.mono ?_;rintro e w1 ⟨rfl,rfl⟩;clear his;go_wp2;go_ret;have hb:((({ data:=#[97,98,99,100] }:ByteArray)[0]).toNat:Int)=97:=rfl;exact⟨bQ (by omega),rfl⟩
 | false=>
  rw[hl]at his;clear hl;rw[aU (by simp)];go_enter func45,ntmps45;go_wp2_with fail;refine his.mono ?_;rintro e w1 ⟨rfl,rfl⟩;clear his;go_wp2;go_ret;exact⟨rfl,rfl⟩
theorem aIE(c:UInt8):aI.num c<4:=by
 unfold aI.num;split
 ·rename_i h;have:=of_decide_eq_true h;omega
 ·omega
def Ws(d:Bool):UInt8->Bool:=if d=true then aI.isS else lG
def Rw(d:Bool):Int:=if d=true then 1 else 0
theorem Ky(d:Bool)(c:UInt8)(w:World):J1 112 #[I (Rw d),.int .u8 c.toNat] w fun e w'=>e=.returned (.bool (Ws d c))∧w'=w:=by
 cases d with
 | true=>
  have h:=FZ c w;show J1 112 #[I 1,.int .u8 c.toNat] w fun e w'=>e=.returned (.bool (aI.isS c))∧w'=w
  go_enter func112,ntmps112;go_wp2_with fail;refine h.mono ?_;rintro e w1 ⟨rfl,rfl⟩;clear h;go_wp2;go_ret;exact⟨rfl,rfl⟩
 | false=>
  have h:=Aw c w;show J1 112 #[I 0,.int .u8 c.toNat] w fun e w'=>e=.returned (.bool (lG c))∧w'=w
  go_enter func112,ntmps112;go_wp2_with fail;refine h.mono ?_;rintro e w1 ⟨rfl,rfl⟩;clear h;go_wp2;go_ret;exact⟨rfl,rfl⟩
end
section
open Go.RowKit
attribute [local go_sem ↓] Go.wp_at_zero Go.wp_at_succ
variable {wr:World} {B n i j:Nat} {s:ByteArray}
theorem pick_any(c:Int)(n:Nat)(h0:0<n)(hn:n<=1048576)(hc1:-9223372036854775808<=c)(hc2:c<=9223372036854775807)(w:World):J1 30 #[I c,I n] w fun e w'=>e=.returned (I (jJ c n:Int))∧w'=w:=by
 have hne:((n:Int)==0)=false:=by
  rw[beq_eq_false_iff_ne];omega
 by_cases h:c<0
 ·have hm:=Int.emod_nonneg (-(c+1)) (show (n:Int)≠0 by omega);have hlt:=Int.emod_lt_of_pos (-(c+1)) (show (0:Int)<(n:Int) by omega);have he:(jJ c n:Int)=(-(c+1)).tmod (n:Int):=by
   unfold jJ;rw[aP h,Int.toNat_of_nonneg hm,Int.tmod_eq_emod_of_nonneg (by omega)]
  rw[he];go_enter func30,ntmps30;go_wp2;go_ret;exact⟨bQ (by rw[Int.neg_tmod]),rfl⟩
 ·have hm:=Int.emod_nonneg c (show (n:Int)≠0 by omega);have hlt:=Int.emod_lt_of_pos c (show (0:Int)<(n:Int) by omega);have he:(jJ c n:Int)=c.tmod (n:Int):=by
   unfold jJ;rw[aU h,Int.toNat_of_nonneg hm,Int.tmod_eq_emod_of_nonneg (by omega)]
  rw[he];go_enter func30,ntmps30;go_wp2;go_ret;exact⟨bQ (by rw[Int.tmod_eq_emod_of_nonneg (by omega)]),rfl⟩
abbrev sb(l:List UInt8):ByteArray:=⟨l.toArray⟩
theorem ai(l:List UInt8):(sb l).size=l.length:=by show l.toArray.size=_;simp
theorem dm(a b:List UInt8):sb a++sb b=sb (a++b):=by
 apply ByteArray.ext;simp[sb]
theorem Kz(k n:Nat):Th.aV k (n+1)=UInt8.ofNat (97+k%4)::Th.aV (k/4) n:=rfl
theorem CX(k n:Nat)(hk:k<=1048576)(hn:n<=3)(w:World):J1 51 #[I k,I n] w fun e w'=>e=.returned (.string (sb (Th.aV k n)))∧w'=w:=by
 obtain⟨E,hE⟩:=eX (Th.aV k n);rw[<-hE];go_enter func51,ntmps51;go_wp2_with fail;go_loopg [0,1,5] n (fun g v0 v1 v5 wr=>∃(k m:Nat) (a:List UInt8),k<=1048576∧m<=3∧g=m∧v0=I k∧v1=I m∧v5=.string (sb a)∧a.length+m<=3∧a++Th.aV k m=E∧wr=w)
 case atStart=>exact⟨k,n,[],hk,hn,rfl,rfl,rfl,rfl,by simpa using hn,by simp[hE],rfl⟩
 case round=>
  obtain⟨k,m,a,hk,hm,hg,rfl,rfl,rfl,hal,ha,rfl⟩:=hrel;rcases m with _ | m
  ·have HE:Hd (a=E):=qH <| by
    rw[<-ha];simp[Th.aV]
   go_wp2;go_ret;exact⟨by rw[HE.o];rfl,rfl⟩
  ·have HA:Hd ((a++[UInt8.ofNat (97+k%4)])++Th.aV (k/4) m=E):=qH <| by
    rw[<-ha,Kz];simp
   have Vb:(0:Int)<((m+1:Nat):Int):=by omega
   have hk4:k%4=0∨k%4=1∨k%4=2∨k%4=3:=by omega
   have hsz:=ai a;rcases hk4 with h | h | h | h
   ·have hi:(k:Int)%4=0:=by omega
    rw[h]at HA;go_wp2_with fail;go_roundg m
    case measure=>omega
    case rel=>exact⟨k/4,m,a++[UInt8.ofNat (97+0)],by omega,by omega,rfl,by go_num,rfl,by rw[<-dm];rfl,by rw[length_append,length_singleton];omega,HA.o,rfl⟩
   ·have hi:(k:Int)%4=1:=by omega
    rw[h]at HA;go_wp2_with fail;go_roundg m
    case measure=>omega
    case rel=>exact⟨k/4,m,a++[UInt8.ofNat (97+1)],by omega,by omega,rfl,by go_num,rfl,by rw[<-dm];rfl,by rw[length_append,length_singleton];omega,HA.o,rfl⟩
   ·have hi:(k:Int)%4=2:=by omega
    rw[h]at HA;go_wp2_with fail;go_roundg m
    case measure=>omega
    case rel=>exact⟨k/4,m,a++[UInt8.ofNat (97+2)],by omega,by omega,rfl,by go_num,rfl,by rw[<-dm];rfl,by rw[length_append,length_singleton];omega,HA.o,rfl⟩
   ·have hi:(k:Int)%4=3:=by omega
    rw[h]at HA;go_wp2_with fail;go_roundg m
    case measure=>omega
    case rel=>exact⟨k/4,m,a++[UInt8.ofNat (97+3)],by omega,by omega,rfl,by go_num,rfl,by rw[<-dm];rfl,by rw[length_append,length_singleton];omega,HA.o,rfl⟩
theorem rep_succ(y:List UInt8)(n:Nat):Th.rep y (n+1)=y++Th.rep y n:=rfl
theorem times_any(y:List UInt8)(n:Nat)(hy:y.length*n<=1000000)(hn:n<=1000)(w:World):J1 36 #[.string (sb y),I n] w fun e w'=>e=.returned (.string (sb (Th.rep y n)))∧w'=w:=by
 obtain⟨E,hE⟩:=eX (Th.rep y n);have hsy:=ai y;have HY:=qH hy;rw[<-hE];go_enter func36,ntmps36;go_wp2_with fail;go_loopg [1,5] n (fun g v1 v5 wr=>∃(m:Nat) (a:List UInt8),m<=n∧g=m∧v1=I m∧v5=.string (sb a)∧a.length+y.length*m=y.length*n∧a++Th.rep y m=E∧wr=w)
 case atStart=>exact⟨n,[],dH _,rfl,rfl,rfl,by simp,by simp[hE],rfl⟩
 case round=>
  obtain⟨m,a,hm,hg,rfl,rfl,hal,ha,rfl⟩:=hrel;rcases m with _ | m
  ·have HE:Hd (a=E):=qH <| by
    rw[<-ha];simp[Th.rep]
   go_wp2;go_ret;exact⟨by rw[HE.o];rfl,rfl⟩
  ·have HA:Hd ((a++y)++Th.rep y m=E):=qH <| by
    rw[<-ha,rep_succ,append_assoc]
   have HL:Hd ((a++y).length+y.length*m=y.length*n):=qH <| by
    rw[length_append,<-hal,Nat.mul_succ];omega
   have hsz:(sb a).size+(sb y).size<=1000000:=by
    have:=HY.o;rw[ai,ai];have h2:y.length*(m+1)=y.length*m+y.length:=Nat.mul_succ _ _;omega
   have Vb:(0:Int)<((m+1:Nat):Int):=by omega
   go_wp2_with fail;go_roundg m
   case measure=>omega
   case rel=>exact⟨m,a++y,by omega,rfl,by go_num,by rw[<-dm],HL.o,HA.o,rfl⟩
theorem Zd(v w:List UInt8)(n:Nat)(h:v.length<=n):aI.common (v.drop n) w=0:=by
 rw[drop_of_length_le h];cases w <;> rfl
theorem Ze(v w:List UInt8)(n:Nat)(h:w.length<=n):aI.common v (w.drop n)=0:=by
 rw[drop_of_length_le h];cases v <;> rfl
theorem Zf(v w:List UInt8)(n:Nat)(x y:UInt8)(hx:v[n]?=some x)(hy:w[n]?=some y):aI.common (v.drop n) (w.drop n)=if x=y then aI.common (v.drop (n+1)) (w.drop (n+1))+1 else 0:=by
 obtain⟨h1,rfl⟩:=bU hx;obtain⟨h2,rfl⟩:=bU hy;rw[kJ h1,kJ h2,aI.common]
theorem LC(v:List UInt8)(i:Nat)(h:i<(sb v).size):v[i]?=some (sb v)[i]:=by
 have:=Lib.data_getElem? (sb v) i h;simpa using this
theorem Zg(v u:List UInt8):aI.common v u<=v.length∧aI.common v u<=u.length:=by
 induction v generalizing u with
 | nil=>cases u <;> simp[aI.common]
 | cons a v ih=>
  cases u with
  | nil=>simp[aI.common]
  | cons b u=>
   have:=ih u;simp only[aI.common];split <;> simp <;> omega
theorem Wu(v u:List UInt8)(w:World)(hs:v.length<=1000000)(ht:u.length<=1000000):J1 37 #[.string (sb v),.string (sb u)] w fun e w'=>e=.returned (I (uO v u:Int))∧∃n,w'=w.drewN n:=by
 obtain⟨s,hsv⟩:=eX (sb v);obtain⟨t,htu⟩:=eX (sb u);have hss:s.size<=1000000:=by rw[hsv,ai];exact hs
 have hts:t.size<=1000000:=by rw[htu,ai];exact ht
 have HS:Hd (s.size=v.length∧t.size=u.length):=⟨by rw[hsv,ai],by rw[htu,ai]⟩;have HG1:Hd (∀(i:Nat) (h:i<s.size),v[i]?=some s[i]):=by rw[hsv];exact fun i h=>LC v i h
 have HG2:Hd (∀(i:Nat) (h:i<t.size),u[i]?=some t[i]):=by rw[htu];exact fun i h=>LC u i h
 obtain⟨E,hE⟩:=eX (aI.common v u);have HE:=qH hE.symm;have HA:Hd ((uO v u:Int)=(s.size:Int)+(t.size:Int)-2*(E:Int)):=by
  show (uO v u:Int)=_;have h1:=Zg v u;rw[<-hE]at h1;unfold uO;rw[<-hE,HS.o.1,HS.o.2];omega
 have HEL:Hd (E<=s.size∧E<=t.size):=by
  have h1:=Zg v u;rw[<-hE]at h1;exact⟨by rw[HS.o.1];exact h1.1,by rw[HS.o.2];exact h1.2⟩
 rw[<-hsv,<-htu];clear hsv htu hs ht hE;generalize uO v u=A at HA ⊢;go_enter func37,ntmps37;go_wp2_with fail;go_loopg [5] s.size (fun g v5 wr=>∃(n m:Nat),n<=s.size∧g=s.size-n∧v5=I n∧n+aI.common (v.drop n) (u.drop n)=E∧wr=w.drewN m)
 case atStart=>exact⟨0,0,by omega,by omega,rfl,by have:=HE.o;simpa using this,rfl⟩
 case round=>
  obtain⟨n,m,hn,hg,rfl,hc,rfl⟩:=hrel;by_cases h1:n<s.size
  ·have h1i:(n:Int)<s.size:=by omega
   have h1d:=decide_eq_true h1;have h0i:(0:Int)<=(n:Int):=by omega
   by_cases h2:n<t.size
   ·have Rx:(n:Int)<t.size:=by omega
    have h2d:=decide_eq_true h2;have hst:=Zf v u n _ _ (HG1.o n h1) (HG2.o n h2);by_cases h3:s[n]=t[n]
    ·have HC:Hd (n+1+aI.common (v.drop (n+1)) (u.drop (n+1))=E):=qH <| by
      rw[<-hc,hst,aP h3];omega
     have h3i:(((s[n]).toNat:Int)==((t[n]).toNat:Int))=true:=by rw[h3];simp
     go_wp2_with fail;go_quiet (fail);go_wp2;go_roundg (s.size-(n+1))
     case measure=>omega
     case rel=>exact⟨n+1,_,by omega,rfl,by go_num,HC.o,rfl⟩
    ·have HC:Hd (n=E):=qH <| by
      rw[<-hc,hst,aU h3];omega
     have h3i:(((s[n]).toNat:Int)==((t[n]).toNat:Int))=false:=by
      rw[beq_eq_false_iff_ne];intro h;exact h3 (UInt8.toNat_inj.1 (by omega))
     have hnl:n<=t.size:=by omega
     go_wp2_with fail;go_quiet (fail);go_wp2;go_ret;exact⟨bQ (by rw[HA.o,<-HC.o]),_,rfl⟩
   ·have Rx:¬(n:Int)<t.size:=by omega
    have h2d:=lT h2;have HC:Hd (n=E):=qH <| by
     rw[<-hc,Ze _ u n (by have:=HS.o.2;omega)];omega
    have hnl:n<=t.size:=by have:=HEL.o;rw[HC.o];omega
    go_wp2_with fail;go_quiet (fail);go_wp2;go_ret;exact⟨bQ (by rw[HA.o,<-HC.o]),_,rfl⟩
  ·have h1i:¬(n:Int)<s.size:=by omega
   have h1d:=lT h1;have HC:Hd (n=E):=qH <| by
    rw[<-hc,Zd v _ n (by have:=HS.o.1;omega)];omega
   have hnl:n<=t.size:=by have:=HEL.o;rw[HC.o];omega
   go_wp2_with fail;go_quiet (fail);go_wp2;go_ret;exact⟨bQ (by rw[HA.o,<-HC.o]),_,rfl⟩
structure Zh(wr:World)(B:Nat)(s:ByteArray)(n i:Nat):Prop where
 row:∃(C:Array Value) (Z:Nat),wr.heap[B]?=some (.cells C 5 (Z,Z+1))∧C.size=Z∧s.size<=Z∧∀j (h:j<s.size),C[j]?=some (.int .u8 ((if j<i then Th.signs.getD (s[j].toNat%n) 0 else s[j]).toNat:Int))
theorem Zh.cell(h:Zh wr B s n i)(hj:j<s.size):wr.cell? (J B j)=some (.int .u8 ((if j<i then Th.signs.getD (s[j].toNat%n) 0 else s[j]).toNat:Int)):=by
 obtain⟨C,Z,h1,-,-,h4⟩:=h.row;simp[World.cell?,h1,h4 j hj]
theorem Zh.free(h:Zh wr B s n i)(hj:j<s.size):wr.frozen? (J B j)=false:=by
 obtain⟨C,Z,h1,h2,h3,-⟩:=h.row;simp[World.frozen?,h1];omega
theorem Zh.put(h:Zh wr B s n i)(hi:i<s.size):Zh (wr.setCell (J B i) (.int .u8 ((Th.signs.getD (s[i].toNat%n) 0).toNat:Int))) B s n (i+1):=by
 obtain⟨C,Z,h1,h2,h3,h4⟩:=h.row;refine⟨C.setIfInBounds i (.int .u8 ((Th.signs.getD (s[i].toNat%n) 0).toNat:Int)),Z,?_,by simpa using h2,h3,fun j hj=>?_⟩
 ·simp[World.setCell,Array.getElem?_modify,h1]
 ·rw[Array.getElem?_setIfInBounds];by_cases e:i=j
  ·subst e;rw[aP rfl,aP (by omega),aP (by omega)]
  ·rw[aU e,h4 j hj];have:(j<i+1)↔(j<i):=by omega
   simp only[this]
theorem Wv(s:ByteArray)(w:World)(hs:s.size<=1048576):J1 16 #[.string s,I 4] w fun e w'=>e=.returned (.string (sb (jF 4 s.data.toList)))∧Mod No w w':=by
 have hcv:=run_bytes_of_string (P:=prog) w 9 100 5 s underlying9 underlying100 underlying5;generalize hcap:grownCap w s.size 0 5=cap at hcv;have hge:s.size<=cap:=by rw[<-hcap];exact grownCap_ge _ _ _ _
 have HAT:Hd (∀j (h:j<s.size),(bytesRow s cap)[j]?=some (.int .u8 (s[j].toNat:Int))):=fun j hj=>bytesRow_at s cap j hj
 have HCS:Hd ((bytesRow s cap).size=cap):=qH <| by simp[bytesRow];have:s.data.size=s.size:=rfl;omega
 go_enter func16,ntmps16;go_wp2_with fail;go_loopg [12] s.size (fun g ii wr=>∃(i:Nat),i<=s.size∧g=s.size-i∧ii=I i∧Zh wr w.heap.size s 4 i∧Mod No w wr)
 case atStart=>exact⟨0,by omega,by omega,rfl,⟨bytesRow s cap,(bytesRow s cap).size,heap_alloc_new w _,rfl,by rw[HCS.o];exact hge,fun j hj=>by rw[HAT.o j hj];simp⟩,((Mod.refl No w).alloc _).drew⟩
 case round=>
  obtain⟨i,hi,hg,rfl,hW,hM⟩:=hrel;clear hcv;by_cases hlt:i<s.size
  ·have hii:(i:Int)<s.size:=by omega
   have hi0:(0:Int)<=(i:Int):=by omega
   have hc:=hW.cell hlt;rw[aU (by omega)]at hc;have hf:=hW.free hlt;obtain⟨c,hcc⟩:=eX (s[i]);have HP:Hd (Zh (wr.setCell (J w.heap.size i) (.int .u8 ((Th.signs.getD (c.toNat%4) 0).toNat:Int))) w.heap.size s 4 (i+1)):=by rw[hcc];exact hW.put hlt
   have HM:Hd (Mod No w (wr.setCell (J w.heap.size i) (.int .u8 ((Th.signs.getD (c.toNat%4) 0).toNat:Int)))):=hM.setCell (fun e=>absurd e (Nat.lt_irrefl _)) _;rw[<-hcc]at hc;have aDA:=c.toNat_lt;have hN:c.toNat%4=0∨c.toNat%4=1∨c.toNat%4=2∨c.toNat%4=3:=by omega
   clear hW hM hcc;rcases hN with h | h | h | h;all_goals
    have hm:(c.toNat:Int)%4=((c.toNat%4:Nat):Int):=by omega
    rw[h]at HP HM hm;go_wp2_with fail;go_roundg (s.size-(i+1))
    case measure=>omega
    case rel=>exact⟨i+1,by omega,rfl,by go_num,HP.o,HM.o⟩
  ·have hii:¬(i:Int)<s.size:=by omega
   obtain rfl:i=s.size:=by omega
   have hcv2:=run_convert_bytes_back (P:=prog) wr 100 9 5 (J w.heap.size 0) cap (jF 4 s.data.toList) underlying100 underlying5 underlying9 (fun j hj=>by
    have hl:(jF 4 s.data.toList).length=s.size:=by unfold jF;rw[length_map];exact Array.length_toList
    rw[addr_add,hW.cell (j:=j) (by omega),aP (by omega)]
    simp[jF]
    rfl)
   have hl:(jF 4 s.data.toList).length=s.size:=by unfold jF;rw[length_map];exact Array.length_toList
   rw[hl]at hcv2;clear hW;go_wp2;go_ret;exact⟨rfl,hM⟩
theorem Wx(s:ByteArray)(w:World)(hs:s.size<=1048576):J1 16 #[.string s,I 8] w fun e w'=>e=.returned (.string (sb (jF 8 s.data.toList)))∧Mod No w w':=by
 have hcv:=run_bytes_of_string (P:=prog) w 9 100 5 s underlying9 underlying100 underlying5;generalize hcap:grownCap w s.size 0 5=cap at hcv;have hge:s.size<=cap:=by rw[<-hcap];exact grownCap_ge _ _ _ _
 have HAT:Hd (∀j (h:j<s.size),(bytesRow s cap)[j]?=some (.int .u8 (s[j].toNat:Int))):=fun j hj=>bytesRow_at s cap j hj
 have HCS:Hd ((bytesRow s cap).size=cap):=qH <| by simp[bytesRow];have:s.data.size=s.size:=rfl;omega
 go_enter func16,ntmps16;go_wp2_with fail;go_loopg [12] s.size (fun g ii wr=>∃(i:Nat),i<=s.size∧g=s.size-i∧ii=I i∧Zh wr w.heap.size s 8 i∧Mod No w wr)
 case atStart=>exact⟨0,by omega,by omega,rfl,⟨bytesRow s cap,(bytesRow s cap).size,heap_alloc_new w _,rfl,by rw[HCS.o];exact hge,fun j hj=>by rw[HAT.o j hj];simp⟩,((Mod.refl No w).alloc _).drew⟩
 case round=>
  obtain⟨i,hi,hg,rfl,hW,hM⟩:=hrel;clear hcv;by_cases hlt:i<s.size
  ·have hii:(i:Int)<s.size:=by omega
   have hi0:(0:Int)<=(i:Int):=by omega
   have hc:=hW.cell hlt;rw[aU (by omega)]at hc;have hf:=hW.free hlt;obtain⟨c,hcc⟩:=eX (s[i]);have HP:Hd (Zh (wr.setCell (J w.heap.size i) (.int .u8 ((Th.signs.getD (c.toNat%8) 0).toNat:Int))) w.heap.size s 8 (i+1)):=by rw[hcc];exact hW.put hlt
   have HM:Hd (Mod No w (wr.setCell (J w.heap.size i) (.int .u8 ((Th.signs.getD (c.toNat%8) 0).toNat:Int)))):=hM.setCell (fun e=>absurd e (Nat.lt_irrefl _)) _;rw[<-hcc]at hc;have aDA:=c.toNat_lt;have hN:c.toNat%8=0∨c.toNat%8=1∨c.toNat%8=2∨c.toNat%8=3∨c.toNat%8=4∨c.toNat%8=5∨c.toNat%8=6∨c.toNat%8=7:=by omega
   clear hW hM hcc;rcases hN with h | h | h | h | h | h | h | h;all_goals
    have hm:(c.toNat:Int)%8=((c.toNat%8:Nat):Int):=by omega
    rw[h]at HP HM hm;go_wp2_with fail;go_roundg (s.size-(i+1))
    case measure=>omega
    case rel=>exact⟨i+1,by omega,rfl,by go_num,HP.o,HM.o⟩
  ·have hii:¬(i:Int)<s.size:=by omega
   obtain rfl:i=s.size:=by omega
   have hcv2:=run_convert_bytes_back (P:=prog) wr 100 9 5 (J w.heap.size 0) cap (jF 8 s.data.toList) underlying100 underlying5 underlying9 (fun j hj=>by
    have hl:(jF 8 s.data.toList).length=s.size:=by unfold jF;rw[length_map];exact Array.length_toList
    rw[addr_add,hW.cell (j:=j) (by omega),aP (by omega)]
    simp[jF]
    rfl)
   have hl:(jF 8 s.data.toList).length=s.size:=by unfold jF;rw[length_map];exact Array.length_toList
   rw[hl]at hcv2;clear hW;go_wp2;go_ret;exact⟨rfl,hM⟩
def NH:Enc (List UInt8):=⟨9,1,fun s=>[.string (sb s)],fun _=>rfl⟩
def aF6(C:Th.C)(vw:Value):Value:=.agg #[vw,.bool (fK C),.int .u8 C.loopA.toNat,.int .u8 C.qJ.toNat]
def LD(C:Th.C)(w:World)(e:Ending)(w':World):Prop:=∃vw,e=.returned (.tuple #[.string (sb C.text),aF6 C vw])∧Row NH w' vw C.words∧Mod No w w'
theorem F5(c:Int)(h:0<n):jJ c n<n:=by
 unfold jJ;have h1:=Int.emod_nonneg (if c<0 then -(c+1) else c) (show (n:Int)≠0 by omega);have h2:=Int.emod_lt_of_pos (if c<0 then -(c+1) else c) (show (0:Int)<(n:Int) by omega);omega
theorem Wy(w:World)(o:Obj)(ws:List (List UInt8))(hl:ws.length<=maxLen):Row NH ((w.alloc o).alloc (.cells (ws.map fun s=>Value.string (sb s)).toArray 9)) (.slice (some ⟨w.heap.size+1,0,none⟩) ws.length ws.length) ws:=by
 have h:=aG.new (w.alloc o) (ws.map fun s=>Value.string (sb s)) 9;have e:(w.alloc o).heap.size=w.heap.size+1:=by simp
 rw[e]at h;refine Row.of_block ?_ hl;have:ws.flatMap NH.f=ws.map fun s=>Value.string (sb s):=by
  clear h hl
  induction ws with
  | nil=>rfl
  | cons a ws ih=>rw[flatMap_cons,ih];rfl
 rw[this];exact h
theorem mg{C:Th.C}{w w':World}{vw:Value}{T:List UInt8}{ws:List (List UInt8)}{l:Bool}{a b:UInt8}(ht:C.text=T)(hw:C.words=ws)(hl:fK C=l)(ha:C.loopA=a)(hb:C.qJ=b)(hr:Row NH w' vw ws)(hm:Mod No w w'):LD C w (.returned (.tuple #[.string (sb T),.agg #[vw,.bool l,.int .u8 a.toNat,.int .u8 b.toNat]])) w':=by
 subst ht hw hl ha hb;exact⟨vw,rfl,hr,hm⟩
theorem aCN(B D:Nat):zY 1 B D=.word (Th.aV B (1+D%3)):=rfl
theorem aCO(B D:Nat):zY 2 B D=.any (Th.aV (D/3) (1+B%2)):=rfl
theorem aCP(B D:Nat):zY 3 B D=.or (Th.aV B (1+D%3)) (Th.aV (D/3) (1+B%2)):=rfl
theorem aCQ(B D:Nat):zY 6 B D=.nb (Th.aV (D/3) (1+B%2)):=rfl
theorem JW(k n:Nat):∃r,Th.aV k (1+n)=UInt8.ofNat (97+k%4)::r:=⟨_,by rw[Nat.add_comm];rfl⟩
theorem ext1(c:UInt8)(r:List UInt8):(sb (c::r)).extract 0 1=sb [c]:=by
 apply ByteArray.ext;simp[sb]
theorem O9(f:Nat)(b c:Int)(hf:f<=8)(hb1:-9223372036854775808<=b)(hb2:b<=9223372036854775807)(hc1:-9223372036854775808<=c)(hc2:c<=9223372036854775807)(w:World):J1 29 #[I f,I b,I c] w fun e w'=>LD (zY f (jJ b 1048576) (jJ c 1048576)) w e w':=by
 have p1:=pick_any b 1048576 (by omega) (by omega) hb1 hb2;have p2:=pick_any c 1048576 (by omega) (by omega) hc1 hc2;have hBl:=F5 b (n:=1048576) (by omega);have hDl:=F5 c (n:=1048576) (by omega);generalize jJ b 1048576=B at p1 hBl ⊢;generalize jJ c 1048576=D at p2 hDl ⊢;have l1:=CX B (1+D%3) (by omega) (by omega);have l2:=CX (D/3) (1+B%2) (by omega) (by omega);have HL:Hd ((Th.aV B (1+D%3)).length=1+D%3∧(Th.aV (D/3) (1+B%2)).length=1+B%2):=⟨(pG _ _).2,(pG _ _).2⟩;obtain⟨U,hU⟩:=eX (Th.aV B (1+D%3));obtain⟨V,hV⟩:=eX (Th.aV (D/3) (1+B%2));rw[<-hU,<-hV]at HL;rw[<-hU]at l1;rw[<-hV]at l2;have HU:=qH hU;have HV:=qH hV;clear hU hV;obtain⟨Q,hQ⟩:=eX (fun e w'=>LD (zY f B D) w e w');have HQ:=qH hQ;rw[<-hQ];have E1:Hd ((1:Int)+(D:Int)%3=((1+D%3:Nat):Int)):=qH <| by omega
 have E2:Hd ((D:Int)/3=((D/3:Nat):Int)):=qH <| by omega
 have E3:Hd ((1:Int)+(B:Int)%2=((1+B%2:Nat):Int)):=qH <| by omega
 go_enter func29,ntmps29;go_wp2_with fail;refine(p1 _).mono ?_;rintro e w1 ⟨rfl,rfl⟩;go_wp2_with fail;refine(p2 _).mono ?_;rintro e w1 ⟨rfl,rfl⟩;go_wp2_with fail;rw[E1.o];refine(l1 _).mono ?_;rintro e w1 ⟨rfl,rfl⟩;go_wp2_with fail;rw[E2.o,E3.o];refine(l2 _).mono ?_;rintro e w1 ⟨rfl,rfl⟩;have sU:(sb U).size<=3:=by rw[ai,HL.o.1];omega
 have sV:(sb V).size<=3:=by rw[ai,HL.o.2];omega
 have sUV:(sb (U++[124])).size<=4:=by rw[ai,length_append,HL.o.1];simp;omega
 have sNV:(sb (91::94::98::93::40::V)).size<=8:=by rw[ai];simp only[length_cons,HL.o.2];omega
 have s46:(⟨#[46]⟩:ByteArray).size=1:=rfl;have s97:(⟨#[97]⟩:ByteArray).size=1:=rfl;have s98:(⟨#[98]⟩:ByteArray).size=1:=rfl;have s99:(⟨#[99]⟩:ByteArray).size=1:=rfl;have aHo:(⟨#[100]⟩:ByteArray).size=1:=rfl;have aHp:(⟨#[124]⟩:ByteArray).size=1:=rfl;have s41:(⟨#[41]⟩:ByteArray).size=1:=rfl;have s42:(⟨#[42]⟩:ByteArray).size=1:=rfl;have s91:(⟨#[91,94,98,93,40]⟩:ByteArray).size=5:=rfl;have h9:f=1∨f=2∨f=3∨f=4∨f=5∨f=6∨(f=0∨f=7∨f=8):=by omega
 rcases h9 with h | h | h | h | h | h | h
 ·subst h;have hb:=(aG.new w [.slice (some ⟨w.heap.size+1,0,none⟩) 1 1,.bool false,.int .u8 0,.int .u8 0] 71).alloc (.cells #[.string (sb (U))] 9);have z0:=hb.cell 0 rfl;have z1:=hb.cell 1 rfl;have z2:=hb.cell 2 rfl;have z3:=hb.cell 3 rfl;have hr:=Wy w (.cells #[.slice (some ⟨w.heap.size+1,0,none⟩) 1 1,.bool false,.int .u8 0,.int .u8 0] 71) [U] (by simp[maxLen]);go_wp2_with fail;exact bodyPost_ret (v:=.tuple #[.string (sb (U)),.agg #[.slice (some ⟨w.heap.size+1,0,none⟩) 1 1,.bool false,.int .u8 0,.int .u8 0]]) (by simp[results,results29,go_sem,z0,z1,z2,z3]) rfl (by rw[HQ.o];exact mg (a:=0) (b:=0) (by rw[aCN,<-HU.o];rfl) (by rw[aCN,<-HU.o];rfl) rfl rfl rfl hr (((Mod.refl No w).alloc _).alloc _))
 ·subst h;have aHq:(⟨#[46]⟩:ByteArray)++sb V=sb (46::V):=dm [46] V;have aF7:(⟨#[97]⟩:ByteArray)++sb V=sb (97::V):=dm [97] V;have hv98:(⟨#[98]⟩:ByteArray)++sb V=sb (98::V):=dm [98] V;have hv99:(⟨#[99]⟩:ByteArray)++sb V=sb (99::V):=dm [99] V;have aEX:(⟨#[100]⟩:ByteArray)++sb V=sb (100::V):=dm [100] V;have hb:=(aG.new w [.slice (some ⟨w.heap.size+1,0,none⟩) 4 4,.bool false,.int .u8 0,.int .u8 0] 71).alloc (.cells #[.string (sb (97::V)),.string (sb (98::V)),.string (sb (99::V)),.string (sb (100::V))] 9);have z0:=hb.cell 0 rfl;have z1:=hb.cell 1 rfl;have z2:=hb.cell 2 rfl;have z3:=hb.cell 3 rfl;have hr:=Wy w (.cells #[.slice (some ⟨w.heap.size+1,0,none⟩) 4 4,.bool false,.int .u8 0,.int .u8 0] 71) [97::V,98::V,99::V,100::V] (by simp[maxLen]);go_wp2_with fail;exact bodyPost_ret (v:=.tuple #[.string (sb (46::V)),.agg #[.slice (some ⟨w.heap.size+1,0,none⟩) 4 4,.bool false,.int .u8 0,.int .u8 0]]) (by simp[results,results29,go_sem,z0,z1,z2,z3]) rfl (by rw[HQ.o];exact mg (a:=0) (b:=0) (by rw[aCO,<-HV.o];rfl) (by rw[aCO,<-HV.o];rfl) rfl rfl rfl hr (((Mod.refl No w).alloc _).alloc _))
 ·subst h;have hv1:sb U++(⟨#[124]⟩:ByteArray)=sb (U++[124]):=dm U [124];have hv2:sb (U++[124])++sb V=sb (U++124::V):=by rw[dm,append_assoc];rfl
  have hb:=(aG.new w [.slice (some ⟨w.heap.size+1,0,none⟩) 2 2,.bool false,.int .u8 0,.int .u8 0] 71).alloc (.cells #[.string (sb (U)),.string (sb (V))] 9);have z0:=hb.cell 0 rfl;have z1:=hb.cell 1 rfl;have z2:=hb.cell 2 rfl;have z3:=hb.cell 3 rfl;have hr:=Wy w (.cells #[.slice (some ⟨w.heap.size+1,0,none⟩) 2 2,.bool false,.int .u8 0,.int .u8 0] 71) [U,V] (by simp[maxLen]);go_wp2_with fail;exact bodyPost_ret (v:=.tuple #[.string (sb (U++124::V)),.agg #[.slice (some ⟨w.heap.size+1,0,none⟩) 2 2,.bool false,.int .u8 0,.int .u8 0]]) (by simp[results,results29,go_sem,z0,z1,z2,z3]) rfl (by rw[HQ.o];exact mg (a:=0) (b:=0) (by rw[aCP,<-HU.o,<-HV.o];rfl) (by rw[aCP,<-HU.o,<-HV.o];rfl) rfl rfl rfl hr (((Mod.refl No w).alloc _).alloc _))
 ·subst h;obtain⟨ru,xZ⟩:=JW B (D%3);obtain⟨rv,hrv⟩:=JW (D/3) (B%2);rw[<-HU.o]at xZ;rw[<-HV.o]at hrv;obtain⟨X,hX⟩:=eX (UInt8.ofNat (97+B%4));obtain⟨Y,hY⟩:=eX (UInt8.ofNat (97+D/3%4));rw[<-hX]at xZ;rw[<-hY]at hrv;have HXY:Hd (zY 4 B D=if X=Y then .word [X] else .loop X Y):=by rw[hX,hY];exact rfl
  subst xZ hrv;clear hX hY HU HV HL sUV sNV;have hx1:=ext1 X ru;have hy1:=ext1 Y rv;have gx:1<=(sb (X::ru)).size:=by rw[ai];simp
  have gy:1<=(sb (Y::rv)).size:=by rw[ai];simp
  have sx1:(sb [X]).size=1:=rfl;have sy1:(sb [Y]).size=1:=rfl;by_cases hXY:X=Y
  ·subst hXY;rw[aP rfl]at HXY;have hb:=(aG.new w [.slice (some ⟨w.heap.size+1,0,none⟩) 1 1,.bool false,.int .u8 0,.int .u8 0] 71).alloc (.cells #[.string (sb [X])] 9);have z0:=hb.cell 0 rfl;have z1:=hb.cell 1 rfl;have z2:=hb.cell 2 rfl;have z3:=hb.cell 3 rfl;have hr:=Wy w (.cells #[.slice (some ⟨w.heap.size+1,0,none⟩) 1 1,.bool false,.int .u8 0,.int .u8 0] 71) [[X]] (by simp[maxLen]);go_wp2_with fail;exact bodyPost_ret (v:=.tuple #[.string (sb [X]),.agg #[.slice (some ⟨w.heap.size+1,0,none⟩) 1 1,.bool false,.int .u8 0,.int .u8 0]]) (by simp[results,results29,go_sem,z0,z1,z2,z3]) rfl (by rw[HQ.o,HXY.o];exact mg (C:=.word [X]) (a:=0) (b:=0) rfl rfl rfl rfl rfl hr (((Mod.refl No w).alloc _).alloc _))
  ·rw[aU hXY]at HXY;have hne:(X==Y)=false:=by simpa using hXY
   have hc1:sb [X]++(⟨#[42]⟩:ByteArray)=sb [X,42]:=dm [X] [42];have hc2:sb [X,42]++sb [Y]=sb [X,42,Y]:=dm [X,42] [Y];have sx2:(sb [X,42]).size=2:=rfl;have gx0:(sb [X])[0]=X:=rfl;have gy0:(sb (Y::rv))[0]=Y:=rfl;have hbk:=aG.new w [.slice none 0 0,.bool false,.int .u8 0,.int .u8 0] 71;have HM:Hd (Mod No w (w.alloc (.cells #[.slice none 0 0,.bool false,.int .u8 0,.int .u8 0] 71))):=(Mod.refl No w).alloc _;go_wp2_with fail;generalize JX:w.alloc (.cells #[.slice none 0 0,.bool false,.int .u8 0,.int .u8 0] 71)=wa at *;have z0:=hbk.cell 0 rfl;have z1:=hbk.cell 1 rfl;have z2:=hbk.cell 2 rfl;have z3:=hbk.cell 3 rfl;have f0:=hbk.free 0;have f1:=hbk.free 1;have f2:=hbk.free 2;have f3:=hbk.free 3
   go_region
   have hb2:aG ((((wa.setCell (J w.heap.size 0) (.slice none 0 0)).setCell (J w.heap.size 1) (.bool true)).setCell (J w.heap.size 2) (.int .u8 X.toNat)).setCell (J w.heap.size 3) (.int .u8 Y.toNat)).drew w.heap.size [.slice none 0 0,.bool true,.int .u8 X.toNat,.int .u8 Y.toNat] 71:=((((hbk.set 0 _).set 1 _).set 2 _).set 3 _).drew;have lF:Hd (Mod No w ((((wa.setCell (J w.heap.size 0) (.slice none 0 0)).setCell (J w.heap.size 1) (.bool true)).setCell (J w.heap.size 2) (.int .u8 X.toNat)).setCell (J w.heap.size 3) (.int .u8 Y.toNat)).drew):=((((HM.o.setCell (fun e=>absurd e (Nat.lt_irrefl _)) _).setCell (fun e=>absurd e (Nat.lt_irrefl _)) _).setCell (fun e=>absurd e (Nat.lt_irrefl _)) _).setCell (fun e=>absurd e (Nat.lt_irrefl _)) _).drew;generalize ((((wa.setCell (J w.heap.size 0) (.slice none 0 0)).setCell (J w.heap.size 1) (.bool true)).setCell (J w.heap.size 2) (.int .u8 X.toNat)).setCell (J w.heap.size 3) (.int .u8 Y.toNat)).drew=w9 at *;have z0:=hb2.cell 0 rfl;have z1:=hb2.cell 1 rfl;have z2:=hb2.cell 2 rfl;have z3:=hb2.cell 3 rfl;go_wp2;exact bodyPost_ret (v:=.tuple #[.string (sb [X,42,Y]),.agg #[.slice none 0 0,.bool true,.int .u8 X.toNat,.int .u8 Y.toNat]]) (by simp[results,results29,go_sem,z0,z1,z2,z3]) rfl (by rw[HQ.o,HXY.o];exact mg (C:=.loop X Y) rfl rfl rfl rfl rfl (Row.nil _ _) lF.o)
 ·subst h;have hb:=(aG.new w [.slice (some ⟨w.heap.size+1,0,none⟩) 2 2,.bool false,.int .u8 0,.int .u8 0] 71).alloc (.cells #[.string (sb ([97])),.string (sb ([99]))] 9);have z0:=hb.cell 0 rfl;have z1:=hb.cell 1 rfl;have z2:=hb.cell 2 rfl;have z3:=hb.cell 3 rfl;have hr:=Wy w (.cells #[.slice (some ⟨w.heap.size+1,0,none⟩) 2 2,.bool false,.int .u8 0,.int .u8 0] 71) [[97],[99]] (by simp[maxLen]);go_wp2_with fail;exact bodyPost_ret (v:=.tuple #[.string (sb ([91,97,99,93])),.agg #[.slice (some ⟨w.heap.size+1,0,none⟩) 2 2,.bool false,.int .u8 0,.int .u8 0]]) (by simp[results,results29,go_sem,z0,z1,z2,z3]) rfl (by rw[HQ.o];exact mg (a:=0) (b:=0) (rfl) (rfl) rfl rfl rfl hr (((Mod.refl No w).alloc _).alloc _))
 ·subst h;have aF7:(⟨#[97]⟩:ByteArray)++sb V=sb (97::V):=dm [97] V;have hv99:(⟨#[99]⟩:ByteArray)++sb V=sb (99::V):=dm [99] V;have aEX:(⟨#[100]⟩:ByteArray)++sb V=sb (100::V):=dm [100] V;have hv1:(⟨#[91,94,98,93,40]⟩:ByteArray)++sb V=sb (91::94::98::93::40::V):=dm [91,94,98,93,40] V;have hv2:sb (91::94::98::93::40::V)++(⟨#[41]⟩:ByteArray)=sb (91::94::98::93::40::(V++[41])):=dm (91::94::98::93::40::V) [41];have hb:=(aG.new w [.slice (some ⟨w.heap.size+1,0,none⟩) 3 3,.bool false,.int .u8 0,.int .u8 0] 71).alloc (.cells #[.string (sb (97::V)),.string (sb (99::V)),.string (sb (100::V))] 9);have z0:=hb.cell 0 rfl;have z1:=hb.cell 1 rfl;have z2:=hb.cell 2 rfl;have z3:=hb.cell 3 rfl;have hr:=Wy w (.cells #[.slice (some ⟨w.heap.size+1,0,none⟩) 3 3,.bool false,.int .u8 0,.int .u8 0] 71) [97::V,99::V,100::V] (by simp[maxLen]);go_wp2_with fail;exact bodyPost_ret (v:=.tuple #[.string (sb (91::94::98::93::40::(V++[41]))),.agg #[.slice (some ⟨w.heap.size+1,0,none⟩) 3 3,.bool false,.int .u8 0,.int .u8 0]]) (by simp[results,results29,go_sem,z0,z1,z2,z3]) rfl (by rw[HQ.o];exact mg (a:=0) (b:=0) (by rw[aCQ,<-HV.o];rfl) (by rw[aCQ,<-HV.o];rfl) rfl rfl rfl hr (((Mod.refl No w).alloc _).alloc _))
 ·have hb:=aG.new w [.slice none 0 0,.bool false,.int .u8 0,.int .u8 0] 71;have z0:=hb.cell 0 rfl;have z1:=hb.cell 1 rfl;have z2:=hb.cell 2 rfl;have z3:=hb.cell 3 rfl;have HN:Hd (zY f B D=.no):=by
   rcases h with rfl | rfl | rfl <;> rfl
  have n1:((f:Int)==1)=false:=by rw[beq_eq_false_iff_ne];omega
  have n2:((f:Int)==2)=false:=by rw[beq_eq_false_iff_ne];omega
  have n3:((f:Int)==3)=false:=by rw[beq_eq_false_iff_ne];omega
  have n4:((f:Int)==4)=false:=by rw[beq_eq_false_iff_ne];omega
  have n5:((f:Int)==5)=false:=by rw[beq_eq_false_iff_ne];omega
  have n6:((f:Int)==6)=false:=by rw[beq_eq_false_iff_ne];omega
  go_wp2_with fail;exact bodyPost_ret (v:=.tuple #[.string (sb []),.agg #[.slice none 0 0,.bool false,.int .u8 0,.int .u8 0]]) (by simp[results,results29,go_sem,z0,z1,z2,z3]) rfl (by rw[HQ.o,HN.o];exact mg (C:=.no) (a:=0) (b:=0) rfl rfl rfl rfl rfl (Row.nil _ _) ((Mod.refl No w).alloc _))
end
end Go.Proofs.YtoebidlghdidoaaGreatDoor
