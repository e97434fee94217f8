import Derived.Test.YtoebidlghdidoaaGreatDoorBG
import Derived.Test.YtoebidlghdidoaaGreatDoorCards
import Derived.Test.YtoebidlghdidoaaGreatDoorTie
import Derived.WalkKit
import Derived.ProofKit
import Derived.OpenShut
import Derived.Carry
import Derived.Deep.Slices
import Derived.Deep.DeepHandedRow
import Derived.Lib.LaidTab
import Derived.Stop.LaidErr
set_option maxRecDepth 100000
namespace Go.Proofs.YtoebidlghdidoaaGreatDoor
open Tx Th List Go.ChangeShapes Go.WideShapes Go.ChangeAt Go.RowKit
variable {W:World} {v:Value}
theorem aCF:ownKnob Tryz.prog.godebug=none:=by kernel_rfl
theorem laidOut:laidOutB Tryz.prog=true:=by kernel_rfl
theorem gTab:Tryz.prog.globalNamed uI=some 0:=by kernel_rfl
theorem aBf:(Tryz.prog.globals[0]?).map (·.type)=some 274:=by kernel_rfl
theorem aBg:Tryz.prog.cellsOf 274=20:=by kernel_rfl
theorem aBh:Tryz.prog.cellsOf 261=1:=by kernel_rfl
theorem cells36:Tryz.prog.cellsOf 36=5:=by kernel_rfl
theorem cells3:Tryz.prog.cellsOf 3=1:=by kernel_rfl
theorem cells9:Tryz.prog.cellsOf 9=1:=by kernel_rfl
theorem aCG:Tryz.prog.bytesOf 36=56:=by kernel_rfl
theorem table(h:laidMetH Tryz.prog Rows.refusedRow.laid W):Lib.TabIs Tryz.prog W uI .u64 Lib.pow10Tab:=by
 have h1:laidMet Tryz.prog Rows.refusedRow.laid W:=h;exact Lib.tabIs_of_head (rest:=[]) gTab aBf Tryz.underlying274 Tryz.underlying261 aBh aBg (h1.tail).tail
theorem BV{n:Int}(h:(Lit.int .i64 n).wf=true):-9223372036854775808<=n∧n<=9223372036854775807:=by
 simp only[Lit.wf,IntKind.min,IntKind.max,IntKind.signed,IntKind.bits]at h;simpa using h
section
variable {H:Type} {enc:TypeId × Value->H}
def goD(o:xY):DataW H:=.agg [.lit (.int .i64 o.form),.lit (.int .i64 o.b),.lit (.int .i64 o.c),.lit (.string o.fr),.lit (.string o.tt)]
theorem five{α:Type}:∀{l:List α},l.length=5->∃a b c d e,l=[a,b,c,d,e]
 | [a,b,c,d,e],_=>⟨a,b,c,d,e,rfl⟩
theorem YQ{sp:Nat->Bool}{n:Nat}{cs:List Value}{x:DataW H × List MemPlace}(h:DataW.trod enc Tryz.prog W 0 sp true n 36 cs=some x):∃o:xY,x=(goD o,[])∧cs=[.int .i64 o.form,.int .i64 o.b,.int .i64 o.c,.string (sb o.fr),.string (sb o.tt)]∧(Lit.int .i64 o.form).wf=true∧(Lit.int .i64 o.b).wf=true∧(Lit.int .i64 o.c).wf=true:=by
 obtain⟨xs,k,-,rfl,hl,hxl,hf⟩:=DataW.trod_struct Tryz.underlying36 h;rw[cells36]at hl;clear h;obtain⟨c0,c1,c2,c3,c4,rfl⟩:=five hl;obtain⟨x0,x1,x2,x3,x4,rfl⟩:=five (l:=xs) hxl;have f0 := hf 0 { name := "Form", type := 3, offset := 0, embedded := false, tag := "", pkgPath := "", byteOffset := 0 } rfl;change DataW.trod enc Tryz.prog W 0 sp true k 3 (take (Tryz.prog.cellsOf 3) [c0,c1,c2,c3,c4])=some x0 at f0;rw[cells3]at f0;change DataW.trod enc Tryz.prog W 0 sp true k 3 [c0]=some x0 at f0;have f1 := hf 1 { name := "B", type := 3, offset := 1, embedded := false, tag := "", pkgPath := "", byteOffset := 8 } rfl;change DataW.trod enc Tryz.prog W 0 sp true k 3 (take (Tryz.prog.cellsOf 3) [c1,c2,c3,c4])=some x1 at f1;rw[cells3]at f1;change DataW.trod enc Tryz.prog W 0 sp true k 3 [c1]=some x1 at f1;have f2 := hf 2 { name := "C", type := 3, offset := 2, embedded := false, tag := "", pkgPath := "", byteOffset := 16 } rfl;change DataW.trod enc Tryz.prog W 0 sp true k 3 (take (Tryz.prog.cellsOf 3) [c2,c3,c4])=some x2 at f2;rw[cells3]at f2;change DataW.trod enc Tryz.prog W 0 sp true k 3 [c2]=some x2 at f2;have f3 := hf 3 { name := "From", type := 9, offset := 3, embedded := false, tag := "", pkgPath := "", byteOffset := 24 } rfl;change DataW.trod enc Tryz.prog W 0 sp true k 9 (take (Tryz.prog.cellsOf 9) [c3,c4])=some x3 at f3;rw[cells9]at f3;change DataW.trod enc Tryz.prog W 0 sp true k 9 [c3]=some x3 at f3;have f4 := hf 4 { name := "To", type := 9, offset := 4, embedded := false, tag := "", pkgPath := "", byteOffset := 40 } rfl;change DataW.trod enc Tryz.prog W 0 sp true k 9 (take (Tryz.prog.cellsOf 9) [c4])=some x4 at f4;rw[cells9]at f4;change DataW.trod enc Tryz.prog W 0 sp true k 9 [c4]=some x4 at f4;clear hf;obtain⟨n0,e0,d0,w0⟩:=DataW.trod_int Tryz.underlying3 f0;obtain⟨n1,e1,d1,w1⟩:=DataW.trod_int Tryz.underlying3 f1;obtain⟨n2,e2,d2,w2⟩:=DataW.trod_int Tryz.underlying3 f2;obtain⟨s3,e3,d3,-⟩:=DataW.trod_string Tryz.underlying9 f3;obtain⟨s4,e4,d4,-⟩:=DataW.trod_string Tryz.underlying9 f4;refine⟨⟨n0,n1,n2,s3.data.toList,s4.data.toList⟩,?_,?_,w0,w1,w2⟩
 ·subst d0 d1 d2 d3 d4;rfl
 ·rw[List.cons.injEq]at e0 e1 e2 e3 e4;rw[e0.1,e1.1,e2.1,e3.1,e4.1]
theorem wK{e:TypeId}{d:DataW H}{x:Nat}:∀{l:List (DataW H)},d∈l->x∈d.weights Tryz.prog e->x∈DataW.weightsAll Tryz.prog e l
 | [],h,_=>by cases h
 | a::l,h,hx=>by
  rw[DataW.weightsAll];rcases mem_cons.1 h with rfl | h
  ·exact mem_append_left _ hx
  ·exact mem_append_right _ (wK h hx)
theorem Mc(o:xY):o.fr.length∈(goD o:DataW H).weights Tryz.prog 36∧o.tt.length∈(goD o:DataW H).weights Tryz.prog 36:=by
 have e:(goD o:DataW H).weights Tryz.prog 36=[o.fr.length,o.tt.length]:=by
  unfold goD;rw[DataW.weights,Tryz.underlying36];rfl
 rw[e];simp
theorem Uh{d:DataW H}{p:List MemPlace}(h:DataW.Trod enc Tryz.prog W 0 (fun _=>true) true 22 v d p)(hv:∃a len cap,v=.slice a len cap)(gs:List (DataW H))(ts:List TypeId)(hsz:(DataW.weightsEach Tryz.prog (22::ts) (d::gs)).all (·<=reachBytes)=true):∃os:List xY,SC W v os∧os.length<=281474976710656∧∀o∈os,aDB o:=by
 obtain⟨a0,len0,cap0,rfl⟩:=hv;obtain⟨n,h⟩:=h;rcases Deep.open_slice Tryz.underlying22 h with ⟨hc,hx⟩ | ⟨a,len,cap,m,k,D,Pl,hc,-,hl,-,hm,hx,hall⟩
 ·have e:Value.slice a0 len0 cap0=.slice none 0 0:=by
   have:[Value.slice a0 len0 cap0]=[Value.slice none 0 0]:=hc;exact(List.cons.inj this).1
  cases e;exact⟨[],⟨⟨none,0,rfl⟩,fun a cap _ i o ho=>by simp at ho⟩,by simp,fun o ho=>by cases ho⟩
 ·have e:Value.slice a0 len0 cap0=.slice (some a) len cap:=by
   have:[Value.slice a0 len0 cap0]=[Value.slice (some a) len cap]:=hc;exact(List.cons.inj this).1
  obtain⟨h1,h2,h3⟩:=Value.slice.inj e;subst h1 h2 h3;clear hc h e;simp only[if_true]at hm;have hone:∀i,i<len0->∃o:xY,D i=goD o∧(∀j u,[Value.int .i64 o.form,.int .i64 o.b,.int .i64 o.c,.string (sb o.fr),.string (sb o.tt)][j]?=some u->W.cell? ((a.add (i*5)).add j)=some u)∧(Lit.int .i64 o.form).wf=true∧(Lit.int .i64 o.b).wf=true∧(Lit.int .i64 o.c).wf=true:=fun i hi=>by
   obtain⟨cs,hcs,ht⟩:=hall i (by omega);rw[cells36]at hcs;obtain⟨o,ho,rfl,w1,w2,w3⟩:=YQ ht;obtain⟨-,hlen,hcell⟩:=World.cells?_some hcs;refine⟨o,(Prod.mk.inj ho).1,fun j u hu=>?_,w1,w2,w3⟩;rw[hcell j (by have:=(bU hu).1;simpa using this)];exact hu
  have:Inhabited xY:=⟨⟨0,0,0,[],[]⟩⟩;obtain⟨f,hf⟩:=Deep.choose_lt hone;have hd:=(Prod.mk.inj hx).1;have hw:∀x,x∈(len0+(m-len0))*56::DataW.weightsAll Tryz.prog 36 ((range len0).map D)->x<=reachBytes:=fun x hxm=>by
   rw[all_eq_true]at hsz;have hmem:x∈DataW.weightsEach Tryz.prog (22::ts) (d::gs):=by
    rw[DataW.weightsEach,hd,DataW.weights,Tryz.underlying22];refine mem_append_left _ ?_;show x∈(((range len0).map D).length+((range (m-len0)).map fun j=>D (len0+j)).length)*Tryz.prog.bytesOf 36::(DataW.weightsAll Tryz.prog 36 ((range len0).map D)++_);rw[aCG,length_map,length_map,length_range,length_range];rcases mem_cons.1 hxm with rfl | hxm
    ·exact mem_cons_self
    ·exact mem_cons_of_mem _ (mem_append_left _ hxm)
   simpa using hsz x hmem
  have hr:reachBytes<=281474976710656:=by decide
  have hlen:=hw _ mem_cons_self;refine⟨(range len0).map f,⟨⟨some a,cap0,by rw[length_map,length_range]⟩,fun a' cap' e i o ho=>?_⟩,by rw[length_map,length_range];omega,fun o ho=>?_⟩
  ·have hi:i<len0:=by
    have:=(bU ho).1;simpa using this
   obtain rfl:o=f i:=by
    rw[getElem?_map,getElem?_range hi]at ho;exact(dY ho).symm
   rw[length_map,length_range]at e;cases e;obtain⟨-,hc,-⟩:=hf i hi;have h00:=World.cell?_spot ((hf 0 (by omega)).2.1 0 _ rfl);obtain⟨B,O,spot⟩:=a;have hspot:spot=none:=by simpa [Addr.add] using h00
   subst hspot;have ad:∀t,(⟨B,O,none⟩:Addr).add t=⟨B,O+t,none⟩:=fun t=>by unfold Addr.add;split <;> simp_all
   have c:∀j u,[Value.int .i64 (f i).form,.int .i64 (f i).b,.int .i64 (f i).c,.string (sb (f i).fr),.string (sb (f i).tt)][j]?=some u->W.cell? ⟨B,O+i*5+j,none⟩=some u:=fun j u hu=>by
    have:=hc j u hu;rw[Deep.add_add,ad,<-Nat.add_assoc]at this;exact this
   exact⟨B,O,rfl,c 0 _ rfl,c 1 _ rfl,c 2 _ rfl,c 3 _ rfl,c 4 _ rfl⟩
  ·obtain⟨i,hi,rfl⟩:=mem_map.1 ho;have hi':=mem_range.1 hi;obtain⟨hD,-,w1,w2,w3⟩:=hf i hi';have hdm:D i∈(range len0).map D:=mem_map_of_mem hi;have hws:=Mc (H:=H) (f i);rw[<-hD]at hws;have l1:=hw _ (mem_cons_of_mem _ (wK hdm hws.1));have l2:=hw _ (mem_cons_of_mem _ (wK hdm hws.2));exact⟨(BV w1).1,(BV w1).2,(BV w2).1,(BV w2).2,(BV w3).1,(BV w3).2,by omega,by omega⟩
theorem slice_form{P:Program}{t e:TypeId}(ht:P.underlying t=some (.slice e)){base:Nat}(h:Value.okWide P W .any base t v):∃a len cap,v=.slice a len cap:=by
 simp only[Value.okWide,ht]at h;cases v <;> simp_all [Cell.okWide,Cell.ok]
end
def IK:DataW Unit->Array Value
 | .agg l=>(l.map fun | .lit (.int k n)=>Value.int k n | _=>.bool false).toArray
 | _=>#[]
def Ui(w0:World):World:=
 { w0 with heap:=((w0.heap.modify 0 fun
   | .cells _ t frozen=>.cells (IK Rows.laid_internal_strconv_uint64pow10) t frozen
   | o=>o).modify 1 fun
   | .cells _ t frozen=>.cells (IK Rows.laid_math_bits_deBruijn32tab) t frozen
   | o=>o).modify 2 fun
   | .cells _ t frozen=>.cells (IK Rows.laid_math_bits_deBruijn64tab) t frozen
   | o=>o }
end Go.Proofs.YtoebidlghdidoaaGreatDoor
