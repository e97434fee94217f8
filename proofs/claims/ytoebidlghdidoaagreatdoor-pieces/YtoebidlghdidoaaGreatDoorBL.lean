import Derived.Test.YtoebidlghdidoaaGreatDoorBH
import Derived.Test.YtoebidlghdidoaaGreatDoorBK
set_option maxRecDepth 100000
namespace Go.Proofs.YtoebidlghdidoaaGreatDoor
open List Go.ChangeShapes Go.WideShapes Go.ChangeAt Go.RowKit
section
variable {H:Type} {enc:TypeId × Value->H}
theorem aLC(W:World)(base:Nat)(args:Array Value)(ds gs:List (DataW H))(before:List MemPlace)
  (hval:∀(j:Nat) t v,Tryz.f4.params[j]?=some t->args[j]?=some v->Value.okWide Tryz.prog W .any base t v)
  (hW:DataW.Whole enc Tryz.prog Tryz.f4.params.toList Rows.piecesSpec.vars false W args.toList ds gs before) (hsz:(DataW.weightsEach Tryz.prog (Tryz.f4.params.toList++(OpenSpec.ofChange Rows.piecesSpec).bare.plain.varTypes Tryz.prog) (ds++gs)).all (·<=reachBytes)=true) (hL:laidMetH Tryz.prog Rows.piecesRow.laid W):Calls Tryz.prog 4 args W fun e W'=>∃v,e=.returned v∧Rows.piecesSpec.post enc Tryz.prog Tryz.f4 false true false false W args v W':=by
 have hW':=hW;obtain⟨p,q,hA0,hV,rfl,hfz,hnd⟩:=hW;have hA:DataW.TrodAll enc Tryz.prog W 0 (fun _=>true) true Tryz.f4.params.toList args.toList ds p:=hA0;rw[Tryz.params4]at hA hval hsz;obtain⟨v0,vs0,d0,ds0,p0,q0,hargs,rfl,rfl,h0,r0⟩:=trodAll_cons hA;obtain⟨v1,vs1,d1,ds1,p1,q1,rfl,rfl,rfl,h1,r1⟩:=trodAll_cons r0;obtain⟨v2,vs2,d2,ds2,p2,q2,rfl,rfl,rfl,h2,r2⟩:=trodAll_cons r1;obtain⟨rfl,rfl,rfl⟩:=trodAll_nil r2;obtain rfl:args=#[v0,v1,v2]:=by
  clear hval hsz hW' hL hA hA0 hfz hnd hV h0 r0 h1 r1 h2 r2;cases args;simp_all
 obtain⟨rfl,rfl⟩:=trodVars_none hV;have hv:Value.okWide Tryz.prog W .any base 22 v0:=hval 0 22 v0 rfl rfl;obtain⟨os,hR,hl,hg⟩:=Uh h0 (slice_form Tryz.underlying22 hv) _ _ hsz;obtain⟨s,rfl,rfl,rfl,hs⟩:=ChangeMaps.open_string Tryz.underlying9 (hval 1 9 v1 rfl rfl) h1;obtain⟨t,rfl,rfl,rfl,ht⟩:=ChangeMaps.open_string Tryz.underlying9 (hval 2 9 v2 rfl rfl) h2;clear hA0;simp only[append_nil]at hW';have hlt:∀x∈p0,x.block<W.heap.size:=fun x hx=>hW'.lt x (by simpa using hx)
 refine(Xz W v0 os s t hR hl hg (table hL)).mono fun e W' ⟨he,hm⟩=>?_
 subst he;exact⟨_,rfl,_,_,_,[],_,[],hW',trodAll_cons_mk (shut_bool Tryz.underlying4 _) trodAll_mk0,trodAll_cons_mk (Below.trod laidOut (by kernel_rfl) (of_decide_eq_true (by kernel_rfl)) h0 hm.below hlt) (trodAll_cons_mk (ChangeMaps.shut_string Tryz.underlying9 hs) (trodAll_cons_mk (ChangeMaps.shut_string Tryz.underlying9 ht) trodAll_mk0)),rfl,hm.below.frame _,fun h=>by cases h⟩
end
theorem aLD(os:Os):laidMet Tryz.prog Rows.piecesRow.laid ((Ui (World.holding Tryz.prog os ⟨#[],#[],[]⟩)).forCall (fun _ _=>0) ⟨#[],#[.slice none 0 0,.string ⟨#[]⟩,.string ⟨#[]⟩],[]⟩).memory:=laidMet_of_run' 8 (by kernel_rfl) (by kernel_rfl)
theorem YD(os:Os){H:Type}(enc:TypeId × Value->H):∃places,DataW.whole enc Tryz.prog ((Ui (World.holding Tryz.prog os ⟨#[],#[],[]⟩)).forCall (fun _ _=>0) ⟨#[],#[.slice none 0 0,.string ⟨#[]⟩,.string ⟨#[]⟩],[]⟩).memory Tryz.f4.params.toList Rows.piecesSpec.vars false #[Value.slice none 0 0,Value.string ⟨#[]⟩,Value.string ⟨#[]⟩].toList 8=some ([.nil,.lit (.string []),.lit (.string [])],[],places):=⟨[],by kernel_rfl⟩
theorem lifted4(os:Os)(started:os.Started)(H:Type)(enc:TypeId × Value->H)(F:Stop.Interp):ReturnsInHanded {} Tryz.checked os 4 .any ((OpenSpec.ofChange Rows.piecesSpec).preRow enc Tryz.prog Tryz.f4 Rows.piecesRow.domain false Rows.piecesRow.laid) (((OpenSpec.ofChange Rows.piecesSpec).at F).post enc Tryz.prog Tryz.f4 false true false false):=by
 obtain⟨places,hx⟩:=YD os enc;refine returnsInHanded_of_row (C:=Tryz.checked) (s:=OpenSpec.ofChange Rows.piecesSpec) aCF started (by kernel_rfl) Tryz.func4
  (witness_row_at (enc:=enc) (C:=Tryz.checked) false (Ui (World.holding Tryz.prog os ⟨#[],#[],[]⟩)) #[.slice none 0 0,.string ⟨#[]⟩,.string ⟨#[]⟩] rfl (by kernel_rfl) (by kernel_rfl) (by kernel_rfl)
   (OpenSpec.preRow_of_cond 8 hx (by kernel_rfl) (fun k hk=>by cases hk) (by kernel_rfl) (aLD os))) ?_
 intro W base args ds gs before hval hW _ _ hsz hL _ _;exact aLC W base args ds gs before hval hW hsz hL
theorem U1:Rows.PiecesSaid:=OpenClaim.holds_of_cond 4 Tryz.f4 rfl rfl rfl rfl rfl rfl rfl ⟨rfl,rfl,rfl,rfl,rfl⟩ rfl rfl rfl rfl rfl (by kernel_rfl) Tryz.func4 (by kernel_rfl)
  (of_decide_eq_true (by kernel_rfl)) (by unfold Func.isWrapper;first | (rw[aP (by decide +kernel)];kernel_rfl) | (rw[aU (by decide +kernel)];exact⟨rfl,rfl⟩))
  (fun os started H enc _ F=>by rw[OpenClaim.pre_eq_preRow];exact lifted4 os started H enc F)
theorem UB (f : FuncId) (fn : Func) (hf : Tryz.pinned.checked.prog.funcNamed "rewrite/rewritekeep.Pieces" = some f) (hfn : Tryz.pinned.checked.prog.funcs[f]? = some fn):false=Tryz.pinned.checked.prog.looks []∧∀(j:Nat) t,fn.params[j]?=some t->Tryz.pinned.checked.prog.wantsStandIn t=false:=by
 obtain rfl : f = 4 := dY ((show Tryz.prog.funcNamed "rewrite/rewritekeep.Pieces" = some 4 by kernel_rfl).symm.trans hf) |>.symm;obtain rfl:fn=Tryz.f4:=(dY (Tryz.func4.symm.trans hfn)).symm;refine⟨by kernel_rfl,fun j t ht=>?_⟩;rw[Tryz.params4]at ht;have:=Array.mem_of_getElem? ht;simp at this;rcases this with rfl | rfl
 ·exact(show Tryz.prog.wantsStandIn 22=false by kernel_rfl)
 ·exact(show Tryz.prog.wantsStandIn 9=false by kernel_rfl)
theorem pieces_card:Rows.PiecesCardSaid:=Claim7.holds_tied_plain_at .later [] _ _ _ _ U1 (fun _ h=>by cases h) (by kernel_rfl) (fun _ h=>by cases h) pieces_row_tie rfl ⟨rfl,rfl⟩ (by kernel_rfl) rfl UB (by kernel_rfl)
end Go.Proofs.YtoebidlghdidoaaGreatDoor
