import Derived.Test.YtoebidlghdidoaaGreatDoorBH
import Derived.Test.YtoebidlghdidoaaGreatDoorBK
set_option maxRecDepth 100000
namespace Go.Proofs.YtoebidlghdidoaaGreatDoor
open List Go.ChangeShapes Go.WideShapes Go.ChangeAt Go.RowKit
section
variable {H:Type} {enc:TypeId × Value->H}
theorem aJX(W:World)(base:Nat)(args:Array Value)(ds gs:List (DataW H))(before:List MemPlace)
  (hval:∀(j:Nat) t v,Tryz.f5.params[j]?=some t->args[j]?=some v->Value.okWide Tryz.prog W .any base t v)
  (hW:DataW.Whole enc Tryz.prog Tryz.f5.params.toList Rows.partedSpec.vars false W args.toList ds gs before) (hsz:(DataW.weightsEach Tryz.prog (Tryz.f5.params.toList++(OpenSpec.ofChange Rows.partedSpec).bare.plain.varTypes Tryz.prog) (ds++gs)).all (·<=reachBytes)=true) (hL:laidMetH Tryz.prog Rows.partedRow.laid W):Calls Tryz.prog 5 args W fun e W'=>∃v,e=.returned v∧Rows.partedSpec.post enc Tryz.prog Tryz.f5 false true false false W args v W':=by
 have hW':=hW;obtain⟨p,q,hA0,hV,rfl,hfz,hnd⟩:=hW;have hA:DataW.TrodAll enc Tryz.prog W 0 (fun _=>true) true Tryz.f5.params.toList args.toList ds p:=hA0;rw[Tryz.params5]at hA hval hsz;obtain⟨v0,vs0,d0,ds0,p0,q0,hargs,rfl,rfl,h0,r0⟩:=trodAll_cons hA;obtain⟨v1,vs1,d1,ds1,p1,q1,rfl,rfl,rfl,h1,r1⟩:=trodAll_cons r0;obtain⟨rfl,rfl,rfl⟩:=trodAll_nil r1;obtain rfl:args=#[v0,v1]:=by
  clear hval hsz hW' hL hA hA0 hfz hnd hV h0 r0 h1 r1;cases args;simp_all
 obtain⟨rfl,rfl⟩:=trodVars_none hV;have hv:Value.okWide Tryz.prog W .any base 22 v0:=hval 0 22 v0 rfl rfl;have hv1:Value.okWide Tryz.prog W .any base 22 v1:=hval 1 22 v1 rfl rfl;obtain⟨os,hR,hl,hg⟩:=Uh h0 (slice_form Tryz.underlying22 hv) _ _ hsz;obtain⟨os1,hR1,hl1,hg1⟩:=Uh h1 (slice_form Tryz.underlying22 hv1) [] _ (by
  rw[all_eq_true]at hsz ⊢
  intro x hx
  refine hsz x ?_
  show x∈DataW.weightsEach Tryz.prog (22::22::_) (d0::d1::_)
  rw[DataW.weightsEach]
  exact mem_append_right _ hx)
 clear hA0;simp only[append_nil]at hW';have hlt:∀x∈p0++p1,x.block<W.heap.size:=fun x hx=>hW'.lt x hx
 refine(aJG W v0 v1 os os1 hR hR1 hl hl1 hg hg1 (table hL)).mono fun e W' ⟨he,hm⟩=>?_
 subst he;refine⟨_,rfl,_,_,_,[],_,[],hW',trodAll_cons_mk (shut_bool Tryz.underlying4 _) trodAll_mk0,trodAll_cons_mk (Below.trod laidOut (by kernel_rfl) (of_decide_eq_true (by kernel_rfl)) h0 hm.below (fun x hx=>hlt x (mem_append_left _ hx))) (trodAll_cons_mk (Below.trod laidOut (by kernel_rfl) (of_decide_eq_true (by kernel_rfl)) h1 hm.below (fun x hx=>hlt x (mem_append_right _ hx))) trodAll_mk0),rfl,hm.below.frame _,fun h=>by cases h⟩
end
theorem aJY(os:Os):laidMet Tryz.prog Rows.partedRow.laid ((Ui (World.holding Tryz.prog os ⟨#[],#[],[]⟩)).forCall (fun _ _=>0) ⟨#[],#[.slice none 0 0,.slice none 0 0],[]⟩).memory:=laidMet_of_run' 8 (by kernel_rfl) (by kernel_rfl)
theorem aJH(os:Os){H:Type}(enc:TypeId × Value->H):∃places,DataW.whole enc Tryz.prog ((Ui (World.holding Tryz.prog os ⟨#[],#[],[]⟩)).forCall (fun _ _=>0) ⟨#[],#[.slice none 0 0,.slice none 0 0],[]⟩).memory Tryz.f5.params.toList Rows.partedSpec.vars false #[Value.slice none 0 0,Value.slice none 0 0].toList 8=some ([.nil,.nil],[],places):=⟨[],by kernel_rfl⟩
theorem lifted5(os:Os)(started:os.Started)(H:Type)(enc:TypeId × Value->H)(F:Stop.Interp):ReturnsInHanded {} Tryz.checked os 5 .any ((OpenSpec.ofChange Rows.partedSpec).preRow enc Tryz.prog Tryz.f5 Rows.partedRow.domain false Rows.partedRow.laid) (((OpenSpec.ofChange Rows.partedSpec).at F).post enc Tryz.prog Tryz.f5 false true false false):=by
 obtain⟨places,hx⟩:=aJH os enc;refine returnsInHanded_of_row (C:=Tryz.checked) (s:=OpenSpec.ofChange Rows.partedSpec) aCF started (by kernel_rfl) Tryz.func5
  (witness_row_at (enc:=enc) (C:=Tryz.checked) false (Ui (World.holding Tryz.prog os ⟨#[],#[],[]⟩)) #[.slice none 0 0,.slice none 0 0] rfl (by kernel_rfl) (by kernel_rfl) (by kernel_rfl)
   (OpenSpec.preRow_of_cond 8 hx (by kernel_rfl) (fun k hk=>by cases hk) (by kernel_rfl) (aJY os))) ?_
 intro W base args ds gs before hval hW _ _ hsz hL _ _;exact aJX W base args ds gs before hval hW hsz hL
theorem aJw:Rows.PartedSaid:=OpenClaim.holds_of_cond 5 Tryz.f5 rfl rfl rfl rfl rfl rfl rfl ⟨rfl,rfl,rfl,rfl,rfl⟩ rfl rfl rfl rfl rfl (by kernel_rfl) Tryz.func5 (by kernel_rfl)
  (of_decide_eq_true (by kernel_rfl)) (by unfold Func.isWrapper;first | (rw[aP (by decide +kernel)];kernel_rfl) | (rw[aU (by decide +kernel)];exact⟨rfl,rfl⟩))
  (fun os started H enc _ F=>by rw[OpenClaim.pre_eq_preRow];exact lifted5 os started H enc F)
theorem aJj (f : FuncId) (fn : Func) (hf : Tryz.pinned.checked.prog.funcNamed "rewrite/rewritekeep.Parted" = some f) (hfn : Tryz.pinned.checked.prog.funcs[f]? = some fn):false=Tryz.pinned.checked.prog.looks []∧∀(j:Nat) t,fn.params[j]?=some t->Tryz.pinned.checked.prog.wantsStandIn t=false:=by
 obtain rfl : f = 5 := dY ((show Tryz.prog.funcNamed "rewrite/rewritekeep.Parted" = some 5 by kernel_rfl).symm.trans hf) |>.symm;obtain rfl:fn=Tryz.f5:=(dY (Tryz.func5.symm.trans hfn)).symm;refine⟨by kernel_rfl,fun j t ht=>?_⟩;rw[Tryz.params5]at ht;obtain rfl:t=22:=by simpa using Array.mem_of_getElem? ht
 exact(show Tryz.prog.wantsStandIn 22=false by kernel_rfl)
theorem parted_card:Rows.PartedCardSaid:=Claim7.holds_tied_plain_at .later [] _ _ _ _ aJw (fun _ h=>by cases h) (by kernel_rfl) (fun _ h=>by cases h) parted_row_tie rfl ⟨rfl,rfl⟩ (by kernel_rfl) rfl aJj (by kernel_rfl)
end Go.Proofs.YtoebidlghdidoaaGreatDoor
