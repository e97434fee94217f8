import Derived.Test.YtmbapmbpnnaanabGreatDoorNE
namespace Go.Proofs.YtmbapmbpnnaanabGreatDoor.M3
open Go.Proofs.YtmbapmbpnnaanabGreatDoor.M2
def addF (on : List Int) (found : List Fnd) (last : List Nat) (pair : Nat) (h0 h1 : List UInt8) (fr : Int) (l : Nat) : Option (List Fnd × List Nat) :=
  match on[pair]?, last[pair]? with
  | some o, some la => if o < 0 then some (found, last) else
    if found.length ≤ 100000 ∧ la ≤ 1000000 then
      match M2.seen found h0 h1 100000 ((la : Int) - 1) with
      | none => none
      | some true => some (found, last)
      | some false => some (found ++ [Fnd.mk pair h0 h1 fr l ((la : Int) - 1)], last.set pair (found.length + 1))
    else none
  | _, _ => none
end Go.Proofs.YtmbapmbpnnaanabGreatDoor.M3
namespace Go.Proofs.YtmbapmbpnnaanabGreatDoor
open Go.RowKit
attribute [local go_sem ↓] Go.wp_at_zero Go.wp_at_succ

theorem addF_spec {on : List Int} {found : List M2.Fnd} {last : List Nat} {pair : Nat} {h0 h1 : List UInt8} {fr : Int} {l : Nat} {R : List M2.Fnd × List Nat} (h : M3.addF on found last pair h0 h1 fr l = some R) : ∃ o la, on[pair]? = some o ∧ last[pair]? = some la ∧ ((o < 0 ∧ R = (found, last)) ∨ (¬ o < 0 ∧ found.length ≤ 100000 ∧ la ≤ 1000000 ∧ ∃ b, M2.seen found h0 h1 100000 ((la : Int) - 1) = some b ∧ R = if b then (found, last) else (found ++ [⟨pair, h0, h1, fr, l, (la : Int) - 1⟩], last.set pair (found.length + 1)))) := by
  unfold M3.addF at h
  split at h
  · rename_i o la ho hla
    refine ⟨o, la, ho, hla, ?_⟩
    split at h
    · rename_i hc
      exact Or.inl ⟨hc, (Option.some.inj h).symm⟩
    · rename_i hc
      split at h
      · rename_i hb
        split at h
        · cases h
        · rename_i hs
          exact Or.inr ⟨hc, hb.1, hb.2, true, hs, (Option.some.inj h).symm⟩
        · rename_i hs
          exact Or.inr ⟨hc, hb.1, hb.2, false, hs, (Option.some.inj h).symm⟩
      · cases h
  · cases h
theorem seen_step {found : List M2.Fnd} {h0 h1 : List UInt8} {f : Nat} {i : Int} {b : Bool} (h : M2.seen found h0 h1 (f + 1) i = some b) : (i < 0 ∧ b = false) ∨ (∃ k x, i = ((k : Nat) : Int) ∧ found[k]? = some x ∧ (((decide (x.h0 = h0) && decide (x.h1 = h1)) = true ∧ b = true) ∨ ((decide (x.h0 = h0) && decide (x.h1 = h1)) = false ∧ M2.seen found h0 h1 f x.before = some b))) := by
  rw [M2.seen] at h
  split at h
  · rename_i hc
    exact Or.inl ⟨hc, (Option.some.inj h).symm⟩
  · rename_i hc
    split at h
    · cases h
    · rename_i x hx
      refine Or.inr ⟨i.toNat, x, by omega, hx, ?_⟩
      split at h
      · rename_i he
        exact Or.inl ⟨he, (Option.some.inj h).symm⟩
      · rename_i he
        exact Or.inr ⟨by simpa using he, h⟩

def FnE : Enc M2.Fnd := ⟨224, 6, fun x => [.int .i64 (x.pair : Int), .string ⟨x.h0.toArray⟩, .string ⟨x.h1.toArray⟩, .int .i64 x.fr, .int .i64 (x.l : Int), .int .i64 x.before], fun _ => rfl⟩
theorem Tryz.info224 : (Tryz.prog.info? 224).map (fun i => (i.zero, i.size, i.bytes)) = some (some (.agg #[.int .i64 0, .string ⟨#[]⟩, .string ⟨#[]⟩, .int .i64 0, .int .i64 0, .int .i64 0]), 6, 64) := by kernel_rfl
set_option maxRecDepth 100000 in
theorem eq158 (a b c d : List UInt8) (w : World) : (Op.equalIn 10000 222 (.agg #[.string ⟨a.toArray⟩, .string ⟨b.toArray⟩]) (.agg #[.string ⟨c.toArray⟩, .string ⟨d.toArray⟩])).run Tryz.prog w = .ok (decide (a = c) && decide (b = d)) w := by
  obtain ⟨i9, hi9, -⟩ := info_parts Tryz.info9
  rw [run_equalIn_array w 9999 _ _ Tryz.underlying222 hi9, Tryz.cells9]
  have := eqItems_gen Tryz.prog 9998 9 str Tryz.plain9 (equal_str 9998) [a, b] [c, d] w (List.range 2) (fun i hi => by have := List.mem_range.1 hi; simp; omega)
  refine this.trans ?_
  congr 1
  rw [Bool.eq_iff_iff]
  simp [show List.range 2 = [0, 1] from rfl]

/-- The search in its block. -/
structure SG (v : M2.View) (base S : Nat) (ka kw kh kd vp c5 vn vs vf vo fo la : Value) (R : M3.GG) (found : List M2.Fnd) (last : List Nat) (w : World) : Prop where
  blk : Blk w S [ka, kw, kh, kd, vp, c5, vn, vs, vf, vo, fo, la] 176
  vw : VP v base ka kw kh kd w
  pr : Row PaE w vp R.g.pairs
  sp : Row SpE w vs R.g.steps
  fi : Row InE w vf R.first
  on : Row IzE w vo R.on
  rfo : Row FnE w fo found
  rla : Row InE w la last
  nf : ∀ q, la.ownBlock = some q → vf.ownBlock ≠ some q
  no' : ∀ q, la.ownBlock = some q → vo.ownBlock ≠ some q
section
variable {v : M2.View} {base S : Nat} {ka kw kh kd vp c5 vn vs vf vo fo la : Value} {R : M3.GG} {found : List M2.Fnd} {last : List Nat} {w w' : World}
theorem SG.no (h : SG v base S ka kw kh kd vp c5 vn vs vf vo fo la R found last w) (hm : Mod No w w') : SG v base S ka kw kh kd vp c5 vn vs vf vo fo la R found last w' :=
  ⟨h.blk.mod hm (fun x => x), h.vw.no hm, h.pr.no hm, h.sp.no hm, h.fi.no hm, h.on.no hm, h.rfo.no hm, h.rla.no hm, h.nf, h.no'⟩
theorem SG.more {w7 : World} {v2 : Value} {f2 : List M2.Fnd} (h : SG v base S ka kw kh kd vp c5 vn vs vf vo fo la R found last w) (hg : w.grownBy w7 fo.ownBlock) (hrow : Row FnE w7 v2 f2) : SG v base S ka kw kh kd vp c5 vn vs vf vo v2 la R f2 last (w7.setCell ⟨S, 10, none⟩ v2) := by
  have hm := grown_mod hg
  have hs : Safe (fun k => fo.ownBlock = some k) w 224 224 := Safe.row h.rfo
  have hB := h.blk.safe hm hs (by decide) (by decide)
  have hm2 : Mod (fun k => k = S) w7 (w7.setCell ⟨S, 10, none⟩ v2) := (Mod.refl (fun k => k = S) _).setCell (a := ⟨S, 10, none⟩) (fun _ => rfl) _
  have hs2 := Safe.one hB
  exact ⟨hB.set 10 v2, (h.vw.far hm hs (by decide) (by decide)).far hm2 hs2 (by decide) (by decide), (h.pr.safe hm hs (by decide) (by decide)).safe hm2 hs2 (by decide) (by decide), (h.sp.safe hm hs (by decide) (by decide)).safe hm2 hs2 (by decide) (by decide), (h.fi.safe hm hs (by decide) (by decide)).safe hm2 hs2 (by decide) (by decide), (h.on.safe hm hs (by decide) (by decide)).safe hm2 hs2 (by decide) (by decide), hrow.safe hm2 hs2 (by decide) (by decide), (h.rla.safe hm hs (by decide) (by decide)).safe hm2 hs2 (by decide) (by decide), h.nf, h.no'⟩
theorem SG.put {gl n cap P u : Nat} {x : Nat} (h : SG v base S ka kw kh kd vp c5 vn vs vf vo fo (.slice (some ⟨gl, 0, none⟩) n cap) R found last w) (hP : last[P]? = some u) : SG v base S ka kw kh kd vp c5 vn vs vf vo fo (.slice (some ⟨gl, 0, none⟩) n cap) R found (last.set P x) (w.setCell ⟨gl, P, none⟩ (.int .i64 (x : Int))) := by
  have hm : Mod (fun q => q = gl) w (w.setCell ⟨gl, P, none⟩ (.int .i64 (x : Int))) := (Mod.refl (fun q => q = gl) _).setCell (a := ⟨gl, P, none⟩) (fun _ => rfl) _
  have hs : Safe (fun q => q = gl) w 3 3 := fun g c T hg h1 h2 e => by
    have := Safe.row h.rla g c T hg h1 h2
    exact this (by rw [e]; rfl)
  exact ⟨h.blk.safe hm hs (by decide) (by decide), h.vw.far hm hs (by decide) (by decide), h.pr.safe hm hs (by decide) (by decide), h.sp.safe hm hs (by decide) (by decide), h.fi.mod hm (fun q hq e => h.nf gl rfl (by rw [hq, e])), h.on.mod hm (fun q hq e => h.no' gl rfl (by rw [hq, e])), h.rfo.safe hm hs (by decide) (by decide), InE.put h.rla x hP, h.nf, h.no'⟩
theorem SG.side {Q : Nat} {cs : List Value} (h : SG v base S ka kw kh kd vp c5 vn vs vf vo fo la R found last w) (hQ : Blk w Q cs 224) (hm : Mod (fun k => k = Q) w w') (hf : fo.ownBlock ≠ some Q) : SG v base S ka kw kh kd vp c5 vn vs vf vo fo la R found last w' := by
  have hs : Safe (fun k => k = Q) w 224 224 := Safe.one hQ
  exact ⟨h.blk.safe hm hs (by decide) (by decide), h.vw.far hm hs (by decide) (by decide), h.pr.safe hm hs (by decide) (by decide), h.sp.safe hm hs (by decide) (by decide), h.fi.safe hm hs (by decide) (by decide), h.on.safe hm hs (by decide) (by decide), h.rfo.mod hm (fun q hq e => hf (by rw [hq, e])), h.rla.safe hm hs (by decide) (by decide), h.nf, h.no'⟩
end
/-- What adding may change. -/
def Ad (S : Nat) (fo la : Value) : Nat → Prop := fun k => k = S ∨ fo.ownBlock = some k ∨ la.ownBlock = some k

set_option maxHeartbeats 1600000 in
set_option maxRecDepth 100000 in
theorem sadd_any (w : World) (v : M2.View) (base S : Nat) (ka kw kh kd vp c5 vn vs vf vo fo la : Value) (R : M3.GG) (found : List M2.Fnd) (last : List Nat) (h : SG v base S ka kw kh kd vp c5 vn vs vf vo fo la R found last w) (pair : Nat) (h0 h1 : List UInt8) (fr : Int) (l : Nat) {found' : List M2.Fnd} {last' : List Nat} (hM : M3.addF R.on found last pair h0 h1 fr l = some (found', last')) :
    Calls Tryz.prog 102 #[.pointer (some ⟨S, 0, none⟩), .agg #[.int .i64 (pair : Int), .string ⟨h0.toArray⟩, .string ⟨h1.toArray⟩, .int .i64 fr, .int .i64 (l : Int), .int .i64 0]] w fun e w' => e = .returned (.tuple #[]) ∧ ∃ fo', SG v base S ka kw kh kd vp c5 vn vs vf vo fo' la R found' last' w' ∧ Fresh w fo fo' ∧ Mod (Ad S fo la) w w' := by
  obtain ⟨o, u, ho, hu, hcase⟩ := addF_spec hM
  have hpo : pair < R.on.length := (List.getElem?_eq_some_iff.1 ho).1
  have hpl : pair < last.length := (List.getElem?_eq_some_iff.1 hu).1
  obtain ⟨go', oc, evo, -, -⟩ := h.on.form (by omega)
  obtain ⟨gl, lc, evl, -, -⟩ := h.rla.form (by omega)
  obtain ⟨NO, hNO⟩ : ∃ N, N = R.on.length := ⟨_, rfl⟩
  obtain ⟨NL, hNL⟩ : ∃ N, N = last.length := ⟨_, rfl⟩
  rw [← hNO] at evo hpo
  rw [← hNL] at evl hpl
  subst evl
  have HI : Hid (SG v base S ka kw kh kd vp c5 vn vs vf vo fo (.slice (some ⟨gl, 0, none⟩) NL lc) R found last w) := h
  have HN : Hid (vo = .slice (some ⟨go', 0, none⟩) NO oc ∧ NO = R.on.length ∧ NL = last.length) := ⟨evo, hNO, hNL⟩
  have HU : Hid (R.on[pair]? = some o ∧ last[pair]? = some u) := ⟨ho, hu⟩
  obtain ⟨SA, hSA⟩ : ∃ S, S = (⟨h0.toArray⟩ : ByteArray) := ⟨_, rfl⟩
  obtain ⟨SB, hSB⟩ : ∃ S, S = (⟨h1.toArray⟩ : ByteArray) := ⟨_, rfl⟩
  have HSS : Hid (SA = (⟨h0.toArray⟩ : ByteArray) ∧ SB = (⟨h1.toArray⟩ : ByteArray)) := ⟨hSA, hSB⟩
  rw [← hSA, ← hSB]
  have hpoI : (pair : Int) < (NO : Int) := by omega
  have hplI : (pair : Int) < (NL : Int) := by omega
  clear hSA hSB hM hNO hNL evo ho hu h
  go_enter Tryz.func102, Tryz.ntmps102
  go_wp2_with fail
  have HW1 : Hid (SG v base S ka kw kh kd vp c5 vn vs vf vo fo (.slice (some ⟨gl, 0, none⟩) NL lc) R found last (w.alloc (Obj.cells #[.int .i64 (pair : Int), .string SA, .string SB, .int .i64 fr, .int .i64 (l : Int), .int .i64 0] 224)) ∧ Blk (w.alloc (Obj.cells #[.int .i64 (pair : Int), .string SA, .string SB, .int .i64 fr, .int .i64 (l : Int), .int .i64 0] 224)) w.heap.size [.int .i64 (pair : Int), .string SA, .string SB, .int .i64 fr, .int .i64 (l : Int), .int .i64 0] 224 ∧ Mod No w (w.alloc (Obj.cells #[.int .i64 (pair : Int), .string SA, .string SB, .int .i64 fr, .int .i64 (l : Int), .int .i64 0] 224))) := ⟨HI.out.no ((Mod.refl _ _).alloc _), heap_alloc_new w _, (Mod.refl _ _).alloc _⟩
  generalize w.alloc (Obj.cells #[.int .i64 (pair : Int), .string SA, .string SB, .int .i64 fr, .int .i64 (l : Int), .int .i64 0] 224) = W1 at HW1 ⊢
  have HBX : Hid (∃ BX, BX = w.heap.size) := ⟨_, rfl⟩
  obtain ⟨BX, hBX⟩ := HBX.out
  have HBX : Hid (BX = w.heap.size) := hBX
  rw [← hBX] at HW1 ⊢
  clear hBX
  have b0 := HW1.out.2.1.cell 0 rfl
  have k9 := HW1.out.1.blk.cell 9 rfl
  rw [HN.out.1] at k9
  have c9 : W1.cell? ⟨go', pair, none⟩ = some (.int .i64 o) := by have := HW1.out.1.on; rw [HN.out.1] at this; exact IzE.cell this HU.out.1
  rcases hcase with ⟨ho0, hR⟩ | ⟨ho0, hfl, hul, b, hsn, hR⟩
  · cases hR
    go_quiet (fail)
    go_wp2
    refine bodyPost_ret (results_none rfl _ _ _) rfl ?_
    exact ⟨rfl, fo, HW1.out.1.no ((Mod.refl _ _).drewN _), Fresh.refl _ _, (HW1.out.2.2.no ((Mod.refl _ _).drewN _)).more (fun _ _ e => e.elim)⟩
  · go_quiet (fail)
    have HW2 : Hid (SG v base S ka kw kh kd vp c5 vn vs vf vo fo (.slice (some ⟨gl, 0, none⟩) NL lc) R found last (W1.drewN nq) ∧ Blk (W1.drewN nq) BX [.int .i64 (pair : Int), .string SA, .string SB, .int .i64 fr, .int .i64 (l : Int), .int .i64 0] 224 ∧ Mod No w (W1.drewN nq)) := ⟨HW1.out.1.no ((Mod.refl _ _).drewN _), HW1.out.2.1.drewN _, HW1.out.2.2.no ((Mod.refl _ _).drewN _)⟩
    generalize W1.drewN nq = W2 at HW2 ⊢
    clear HW1 b0 k9 c9
    have b0 := HW2.out.2.1.cell 0 rfl
    have b5 := HW2.out.2.1.cell 5 rfl
    have f5 := HW2.out.2.1.free 5
    have k11 := HW2.out.1.blk.cell 11 rfl
    have cu : W2.cell? ⟨gl, pair, none⟩ = some (.int .i64 (u : Int)) := InE.cell HW2.out.1.rla HU.out.2
    go_wp2_with fail
    go_region
    have HW3 : Hid (SG v base S ka kw kh kd vp c5 vn vs vf vo fo (.slice (some ⟨gl, 0, none⟩) NL lc) R found last (W2.setCell ⟨BX, 5, none⟩ (.int .i64 ((u : Int) - 1))).drew ∧ Blk (W2.setCell ⟨BX, 5, none⟩ (.int .i64 ((u : Int) - 1))).drew BX [.int .i64 (pair : Int), .string SA, .string SB, .int .i64 fr, .int .i64 (l : Int), .int .i64 ((u : Int) - 1)] 224 ∧ Mod No w (W2.setCell ⟨BX, 5, none⟩ (.int .i64 ((u : Int) - 1))).drew) := by
      refine ⟨?_, (HW2.out.2.1.set 5 _).drew, (HW2.out.2.2.setCell (a := ⟨BX, 5, none⟩) (fun e => absurd e (by have := HBX.out; show ¬ BX < w.heap.size; omega)) _).drew⟩
      exact (HW2.out.1.side HW2.out.2.1 ((Mod.refl (fun k => k = BX) _).setCell (a := ⟨BX, 5, none⟩) (fun _ => rfl) _) (fun e => by have := HI.out.rfo.lt e; have := HBX.out; omega)).no ((Mod.refl _ _).drew)
    generalize (W2.setCell ⟨BX, 5, none⟩ (.int .i64 ((u : Int) - 1))).drew = W3 at HW3 ⊢
    clear HW2 b0 b5 f5 k11 cu
    have b5 := HW3.out.2.1.cell 5 rfl
    go_wp2_with fail
    clear b5
    have HSEEN : Hid (M2.seen found h0 h1 100000 ((u : Int) - 1) = some b) := hsn
    have HR : Hid ((found', last') = if b = true then (found, last) else (found ++ [⟨pair, h0, h1, fr, l, (u : Int) - 1⟩], last.set pair (found.length + 1))) := hR
    clear hsn hR
    obtain ⟨FN, hFN⟩ : ∃ F, F = found.length := ⟨_, rfl⟩
    have HFN : Hid (found.length = FN) := hFN.symm
    rw [← hFN] at hfl
    clear hFN
    go_loopg [4] 100000 (fun gh v4 wr => ∃ i : Int, v4 = .int .i64 i ∧ M2.seen found h0 h1 gh i = some b ∧ SG v base S ka kw kh kd vp c5 vn vs vf vo fo (.slice (some ⟨gl, 0, none⟩) NL lc) R found last wr ∧ Blk wr BX [.int .i64 (pair : Int), .string SA, .string SB, .int .i64 fr, .int .i64 (l : Int), .int .i64 ((u : Int) - 1)] 224 ∧ Mod No w wr)
    case atStart => exact ⟨_, rfl, HSEEN.out, HW3.out⟩
    case round =>
      clear HW3 HSEEN
      obtain ⟨i, rfl, hgo, hI⟩ := hrel
      have HI3 : Hid (SG v base S ka kw kh kd vp c5 vn vs vf vo fo (.slice (some ⟨gl, 0, none⟩) NL lc) R found last wr ∧ Blk wr BX [.int .i64 (pair : Int), .string SA, .string SB, .int .i64 fr, .int .i64 (l : Int), .int .i64 ((u : Int) - 1)] 224 ∧ Mod No w wr) := hI
      match gk, hgo with
      | 0, hgo => cases hgo
      | f + 1, hgo =>
        rcases seen_step hgo with ⟨hi0, hb⟩ | ⟨k, x, hik, hx, hc⟩
        · have hi0' : ¬ (0 : Int) ≤ i := by omega
          have HR2 : Hid (found' = found ++ [⟨pair, h0, h1, fr, l, (u : Int) - 1⟩] ∧ last' = last.set pair (FN + 1)) := by
            have := HR.out
            rw [hb] at this
            simp only [Bool.false_eq_true, if_false, Prod.mk.injEq] at this
            rw [← HFN.out]; exact this
          obtain ⟨fA, fC, evf, -, hown⟩ := hI.1.rfo.open HFN.out
          have hown : wr.ownsRow 0 224 6 (.slice fA FN fC) FN (found.flatMap FnE.f) := hown
          have HVF : Hid (fo = .slice fA FN fC) := evf
          have k10 := hI.1.blk.cell 10 rfl
          have K10 := hI.1.blk.cellA 10 rfl
          rw [evf] at k10 K10
          have F10 := hI.1.blk.freeA 10
          have hSl := hI.1.blk.lt
          have hSf : some S ≠ (Value.slice fA FN fC).ownBlock := by rw [← evf]; exact fun e => hI.1.blk.apart hI.1.rfo (by decide) e.symm
          have b0 := hI.2.1.cell 0 rfl
          have b1 := hI.2.1.cell 1 rfl
          have b2 := hI.2.1.cell 2 rfl
          have b3 := hI.2.1.cell 3 rfl
          have b4 := hI.2.1.cell 4 rfl
          have b5 := hI.2.1.cell 5 rfl
          obtain ⟨i0, hinf, hz0, hz1, hz2⟩ := info_parts Tryz.info224
          clear hI hgo evf HR hb
          go_wp2_with fail
          go_region_law (refine step_append_lies _ (by rfl) _ _ _ (by rfl) 0 224 i0 _ 6 64 Tryz.underlying174 hinf hz0 hz1 hz2 rfl (by omega) (.slice fA FN fC) FN (found.flatMap FnE.f) (by rfl) ((hown.alloc _).drew) ⟨wr.heap.size, 0, none⟩ 1 1 [.int .i64 (pair : Int), .string SA, .string SB, .int .i64 fr, .int .i64 (l : Int), .int .i64 ((u : Int) - 1)] (by rfl) (by rfl) (World.news_of_block (cs := #[.int .i64 (pair : Int), .string SA, .string SB, .int .i64 fr, .int .i64 (l : Int), .int .i64 ((u : Int) - 1)]) (t := 224) (fr := (0, 0)) (heap_alloc_new wr _)) (by intro u hu; simp at hu; rcases hu with rfl | rfl | rfl | rfl | rfl | rfl <;> rfl) (by omega) (by unfold maxLen; omega) (by omega) (by simp) (wr.heap.size + 1) (by simp) ?_; intro gg cap2 w7 hown7 hgrow hat hltt; have s0 := (hgrow.cell_far ⟨S, 10, none⟩ (by simp; omega) hSf).trans (K10 _); have s1 := (hgrow.frozen_far ⟨S, 10, none⟩ (by simp; omega) hSf).trans (F10 _))
          all_goals
            have hI4 := HI3.out.1.no (((Mod.refl _ _).alloc (Obj.cells #[.int .i64 (pair : Int), .string SA, .string SB, .int .i64 fr, .int .i64 (l : Int), .int .i64 ((u : Int) - 1)] 224)).drew)
            have hr7 : Row FnE w7 (.slice (some ⟨gg, 0, none⟩) (FN + 1) cap2) (found ++ [⟨pair, h0, h1, fr, l, (u : Int) - 1⟩]) := app_row HFN.out (by rw [HSS.out.1, HSS.out.2]; rfl) hown7
            have HF7 : Hid (Fresh wr fo (.slice (some ⟨gg, 0, none⟩) (FN + 1) cap2)) := app_fresh (H := wr.heap.size + 1) (by rw [HVF.out]; exact hat) (by omega)
            have HI8 : Hid (SG v base S ka kw kh kd vp c5 vn vs vf vo (.slice (some ⟨gg, 0, none⟩) (FN + 1) cap2) (.slice (some ⟨gl, 0, none⟩) NL lc) R (found ++ [⟨pair, h0, h1, fr, l, (u : Int) - 1⟩]) last (w7.setCell ⟨S, 10, none⟩ (.slice (some ⟨gg, 0, none⟩) (FN + 1) cap2))) := hI4.more (by rw [HVF.out]; exact hgrow) hr7
            have hm8 : Mod (Ad S fo (.slice (some ⟨gl, 0, none⟩) NL lc)) wr w7 := (((Mod.refl _ _).alloc _).drew).grown hgrow (fun g hg _ => Or.inr (Or.inl (by rw [HVF.out]; exact hg)))
            have HM8 : Hid (Mod (Ad S fo (.slice (some ⟨gl, 0, none⟩) NL lc)) wr (w7.setCell ⟨S, 10, none⟩ (.slice (some ⟨gg, 0, none⟩) (FN + 1) cap2))) := hm8.setCell (a := ⟨S, 10, none⟩) (fun _ => Or.inl rfl) _
            have hB7 : Blk w7 BX [.int .i64 (pair : Int), .string SA, .string SB, .int .i64 fr, .int .i64 (l : Int), .int .i64 ((u : Int) - 1)] 224 := ((HI3.out.2.1.alloc _).drew).grown hgrow (fun e => by
              have h1 := HI.out.rfo.lt (g := BX) (by rw [HVF.out]; exact e.symm)
              have h2 := HBX.out
              omega)
            have hSB : BX ≠ S := HI3.out.2.1.diff HI3.out.1.blk (by decide)
            have HB8 : Hid (Blk (w7.setCell ⟨S, 10, none⟩ (.slice (some ⟨gg, 0, none⟩) (FN + 1) cap2)) BX [.int .i64 (pair : Int), .string SA, .string SB, .int .i64 fr, .int .i64 (l : Int), .int .i64 ((u : Int) - 1)] 224) := hB7.other (a := ⟨S, 10, none⟩) hSB _
            generalize w7.setCell ⟨S, 10, none⟩ (.slice (some ⟨gg, 0, none⟩) (FN + 1) cap2) = w8 at HI8 HM8 HB8 ⊢
            clear hI4 hr7 hm8 hown7 hgrow hat hltt s0 s1 hown b0 b1 b2 b3 b4 b5 k10 K10 F10 hinf hz0 hz1 hz2 hB7 hSf
            have d10 := HI8.out.blk.cell 10 rfl
            have d11 := HI8.out.blk.cell 11 rfl
            have a0 := HB8.out.cell 0 rfl
            have dP := InE.cell HI8.out.rla HU.out.2
            have fP := HI8.out.rla.free pair
            go_wp2_with fail
            go_region
            all_goals
              go_wp2
              go_end0
              rw [HR2.out.1, HR2.out.2]
              have h9 := HI8.out.put (x := FN + 1) HU.out.2
              refine ⟨rfl, _, h9.no ((Mod.refl _ _).drew), ?_, ?_⟩
              · intro g hg
                rcases HF7.out g hg with e | e
                · exact Or.inl e
                · exact Or.inr (by have := HI3.out.2.2.size; omega)
              · exact (((HI3.out.2.2.more (S := Ad S fo (.slice (some ⟨gl, 0, none⟩) NL lc)) (fun _ _ e => e.elim)).trans HM8.out).setCell (a := ⟨gl, pair, none⟩) (fun _ => Or.inr (Or.inr rfl)) _).drew
        · subst hik
          have hk : k < FN := by rw [← HFN.out]; exact (List.getElem?_eq_some_iff.1 hx).1
          obtain ⟨gf, fC, evf, -, -⟩ := hI.1.rfo.form (by have := HFN.out; omega)
          rw [HFN.out] at evf
          have hrf := hI.1.rfo
          rw [evf] at hrf
          have k10 := hI.1.blk.cell 10 rfl
          rw [evf] at k10
          obtain ⟨XA, hXA⟩ : ∃ X, X = (⟨x.h0.toArray⟩ : ByteArray) := ⟨_, rfl⟩
          obtain ⟨XB, hXB⟩ : ∃ X, X = (⟨x.h1.toArray⟩ : ByteArray) := ⟨_, rfl⟩
          have x1 : wr.cell? ⟨gf, k * 6 + 1, none⟩ = some (.string XA) := by rw [hXA]; exact hrf.cell k 1 hx rfl
          have x2 : wr.cell? ⟨gf, k * 6 + 2, none⟩ = some (.string XB) := by rw [hXB]; exact hrf.cell k 2 hx rfl
          have x5 : wr.cell? ⟨gf, k * 6 + 5, none⟩ = some (.int .i64 x.before) := hrf.cell k 5 hx rfl
          have b1 := hI.2.1.cell 1 rfl
          have b2 := hI.2.1.cell 2 rfl
          have heq : ∀ w : World, (Op.equalIn 10000 222 (.agg #[.string XA, .string XB]) (.agg #[.string SA, .string SB])).run Tryz.prog w = .ok (decide (x.h0 = h0) && decide (x.h1 = h1)) w := fun w => by rw [hXA, hXB, HSS.out.1, HSS.out.2]; exact eq158 _ _ _ _ w
          have hki : (k : Int) < (FN : Int) := by omega
          have hk0 : (0 : Int) ≤ (k : Int) := by omega
          rcases hc with ⟨he, hb⟩ | ⟨he, hnx⟩
          · have HR2 : Hid (found' = found ∧ last' = last) := by
              have := HR.out
              rw [hb] at this
              simp only [if_true, Prod.mk.injEq] at this
              exact this
            rw [he] at heq
            clear hI hgo evf HR hb hrf hx hXA hXB he
            go_wp2_with fail
            go_quiet (fail)
            go_wp2
            refine bodyPost_ret (results_none rfl _ _ _) rfl ?_
            rw [HR2.out.1, HR2.out.2]
            exact ⟨rfl, fo, HI3.out.1.no ((Mod.refl _ _).drewN _), Fresh.refl _ _, (HI3.out.2.2.no ((Mod.refl _ _).drewN _)).more (fun _ _ e => e.elim)⟩
          · rw [he] at heq
            have HNX : Hid (M2.seen found h0 h1 f x.before = some b) := hnx
            clear hI hgo evf hrf hx hXA hXB he hnx
            go_wp2_with fail
            go_quiet (fail)
            go_wp2
            go_roundg f
            case measure => omega
            case rel => exact ⟨_, rfl, HNX.out, HI3.out.1.no ((Mod.refl _ _).drewN _), HI3.out.2.1.drewN _, HI3.out.2.2.no ((Mod.refl _ _).drewN _)⟩
end Go.Proofs.YtmbapmbpnnaanabGreatDoor
namespace Go.Proofs.YtmbapmbpnnaanabGreatDoor.M3
open Go.Proofs.YtmbapmbpnnaanabGreatDoor.M2
def wordF (found : List Fnd) (from' : Int) : Nat → Int → List UInt8 → Option (List UInt8)
  | 0, _, _ => none
  | n + 1, i, w => if i < 0 ∨ i = from' then some w else
    match found[i.toNat]? with
    | none => none
    | some f => if f.l < 4 ∧ w.length ≤ 100000 then wordF found from' n f.fr (if 0 ≤ f.fr then letterOf f.l ++ w else w) else none
def beginGo (on : List Int) : Nat → Nat → List Fnd → List Nat → Option (List Fnd × List Nat)
  | 0, _, found, last => some (found, last)
  | n + 1, i, found, last => match addF on found last i [] [] (-1) 0 with
    | none => none
    | some (found, last) => beginGo on n (i + 1) found last
end Go.Proofs.YtmbapmbpnnaanabGreatDoor.M3
namespace Go.Proofs.YtmbapmbpnnaanabGreatDoor
open Go.RowKit
attribute [local go_sem ↓] Go.wp_at_zero Go.wp_at_succ

theorem wordF_step {found : List M2.Fnd} {from' : Int} {n : Nat} {i : Int} {wd r : List UInt8} (h : M3.wordF found from' (n + 1) i wd = some r) : ((i < 0 ∨ i = from') ∧ wd = r) ∨ (∃ k f, i = ((k : Nat) : Int) ∧ ¬ i = from' ∧ found[k]? = some f ∧ f.l < 4 ∧ wd.length ≤ 100000 ∧ M3.wordF found from' n f.fr (if 0 ≤ f.fr then M2.letterOf f.l ++ wd else wd) = some r) := by
  rw [M3.wordF] at h
  split at h
  · rename_i hc
    exact Or.inl ⟨hc, Option.some.inj h⟩
  · rename_i hc
    split at h
    · cases h
    · rename_i f hf
      split at h
      · rename_i hl
        exact Or.inr ⟨i.toNat, f, by omega, fun e => hc (Or.inr e), hf, hl.1, hl.2, h⟩
      · cases h
theorem beginGo_step {on : List Int} {n i : Nat} {found : List M2.Fnd} {last : List Nat} {R : List M2.Fnd × List Nat} (h : M3.beginGo on (n + 1) i found last = some R) : ∃ f2 l2, M3.addF on found last i [] [] (-1) 0 = some (f2, l2) ∧ M3.beginGo on n (i + 1) f2 l2 = some R := by
  rw [M3.beginGo] at h
  split at h
  · cases h
  · rename_i f2 l2 ha
    exact ⟨f2, l2, ha, h⟩

set_option maxHeartbeats 1600000 in
set_option maxRecDepth 100000 in
theorem word'_any (w : World) (v : M2.View) (base S : Nat) (ka kw kh kd vp c5 vn vs vf vo fo la : Value) (R : M3.GG) (found : List M2.Fnd) (last : List Nat) (h : SG v base S ka kw kh kd vp c5 vn vs vf vo fo la R found last w) (i from' : Int) {r : List UInt8} (hM : M3.wordF found from' 100000 i [] = some r) :
    Calls Tryz.prog 103 #[.pointer (some ⟨S, 0, none⟩), .int .i64 i, .int .i64 from'] w fun e w' => e = .returned (.string ⟨r.toArray⟩) ∧ Mod No w w' := by
  have HI : Hid (SG v base S ka kw kh kd vp c5 vn vs vf vo fo la R found last w) := h
  have HM : Hid (M3.wordF found from' 100000 i [] = some r) := hM
  clear h hM
  go_enter Tryz.func103, Tryz.ntmps103
  go_wp2_with fail
  go_loopg [1, 7] 100000 (fun gh v1 v7 wr => ∃ (i : Int) (wd : List UInt8), v1 = .int .i64 i ∧ v7 = .string ⟨wd.toArray⟩ ∧ M3.wordF found from' gh i wd = some r ∧ SG v base S ka kw kh kd vp c5 vn vs vf vo fo la R found last wr ∧ Mod No w wr)
  case atStart => exact ⟨i, [], rfl, rfl, HM.out, HI.out, Mod.refl _ _⟩
  case round =>
    clear HI HM
    obtain ⟨i, wd, rfl, rfl, hgo, hI⟩ := hrel
    have HI : Hid (SG v base S ka kw kh kd vp c5 vn vs vf vo fo la R found last wr ∧ Mod No w wr) := hI
    obtain ⟨WD, hWD⟩ : ∃ S, S = (⟨wd.toArray⟩ : ByteArray) := ⟨_, rfl⟩
    have HWD : Hid (WD = (⟨wd.toArray⟩ : ByteArray)) := hWD
    rw [← hWD]
    clear hWD
    match gk, hgo with
    | 0, hgo => cases hgo
    | f + 1, hgo =>
      rcases wordF_step hgo with ⟨hc, hr⟩ | ⟨k, x, hik, hif, hx, hl, hwl, hnx⟩
      · have HR : Hid (wd = r) := hr
        by_cases hi0 : i < 0
        · have hi1 : ¬ (0 : Int) ≤ i := by omega
          clear hI hgo hc hr
          go_wp2
          go_ret
          exact ⟨by rw [HWD.out, HR.out]; rfl, HI.out.2⟩
        · have hi1 : (0 : Int) ≤ i := by omega
          have hif : i = from' := by rcases hc with h | h; exact absurd h hi0; exact h
          subst hif
          clear hI hgo hc hr
          go_wp2
          go_ret
          exact ⟨by rw [HWD.out, HR.out]; rfl, HI.out.2⟩
      · subst hik
        obtain ⟨FN, hFN⟩ : ∃ F, F = found.length := ⟨_, rfl⟩
        have hk : k < FN := by rw [hFN]; exact (List.getElem?_eq_some_iff.1 hx).1
        obtain ⟨gf, fC, evf, -, -⟩ := hI.1.rfo.form (by omega)
        rw [← hFN] at evf
        have hrf := hI.1.rfo
        rw [evf] at hrf
        have k10 := hI.1.blk.cell 10 rfl
        rw [evf] at k10
        obtain ⟨XA, hXA⟩ : ∃ X, X = (⟨x.h0.toArray⟩ : ByteArray) := ⟨_, rfl⟩
        obtain ⟨XB, hXB⟩ : ∃ X, X = (⟨x.h1.toArray⟩ : ByteArray) := ⟨_, rfl⟩
        have x0 : wr.cell? ⟨gf, k * 6, none⟩ = some (.int .i64 (x.pair : Int)) := hrf.cell k 0 hx rfl
        have x1 : wr.cell? ⟨gf, k * 6 + 1, none⟩ = some (.string XA) := by rw [hXA]; exact hrf.cell k 1 hx rfl
        have x2 : wr.cell? ⟨gf, k * 6 + 2, none⟩ = some (.string XB) := by rw [hXB]; exact hrf.cell k 2 hx rfl
        have x3 : wr.cell? ⟨gf, k * 6 + 3, none⟩ = some (.int .i64 x.fr) := hrf.cell k 3 hx rfl
        have x4 : wr.cell? ⟨gf, k * 6 + 4, none⟩ = some (.int .i64 (x.l : Int)) := hrf.cell k 4 hx rfl
        have x5 : wr.cell? ⟨gf, k * 6 + 5, none⟩ = some (.int .i64 x.before) := hrf.cell k 5 hx rfl
        have hki : (k : Int) < (FN : Int) := by omega
        have hk0 : (0 : Int) ≤ (k : Int) := by omega
        have hne : ((k : Int) == from') = false := by rw [beq_eq_false_iff_ne]; exact hif
        have hne2 : ((k : Int) != from') = true := by rw [bne, hne]; rfl
        obtain ⟨l, hll⟩ : ∃ l, l = x.l := ⟨_, rfl⟩
        rw [← hll] at x4 hl hnx
        have HLC : Hid ((⟨#[97, 98, 99, 100]⟩ : ByteArray).extract l (l + 1) = ⟨(M2.letterOf l).toArray⟩) := letter_cut l hl
        have hl1 : (l : Int) + 1 ≤ 4 := by omega
        have hl2 : (0 : Int) ≤ (l : Int) + 1 := by omega
        have hl5 : (l : Int) ≤ (l : Int) + 1 := by omega
        have hl6 : ((l : Int) + 1).toNat = l + 1 := by omega
        have hwr : IntKind.i64.wrap ((l : Int) + 1) = (l : Int) + 1 := by rw [IntKind.wrap_i64]; omega
        have hWs : WD.size ≤ 100000 := by rw [HWD.out, str_size]; exact hwl
        have hcat : ¬ 9223372036854775807 < min (l + 1) 4 - l + WD.size := by omega
        have HNX : Hid (M3.wordF found from' f x.fr (if 0 ≤ x.fr then M2.letterOf l ++ wd else wd) = some r) := hnx
        by_cases h0 : 0 ≤ x.fr
        · clear hI hgo evf hrf hx hXA hXB hnx hFN hll hif
          go_wp2
          go_roundg f
          case measure => omega
          case rel =>
            have h2 := HNX.out
            rw [if_pos h0] at h2
            exact ⟨_, _, rfl, by rw [HLC.out, HWD.out, str_cat], h2, HI.out.1.no ((Mod.refl _ _).alloc _), HI.out.2.alloc _⟩
        · clear hI hgo evf hrf hx hXA hXB hnx hFN hll hif
          go_wp2
          go_roundg f
          case measure => omega
          case rel =>
            have h2 := HNX.out
            rw [if_neg (by omega)] at h2
            exact ⟨_, _, rfl, by rw [HWD.out], h2, HI.out.1.no ((Mod.refl _ _).alloc _), HI.out.2.alloc _⟩
/-- The search as it goes on from a world: the row of what was found grows. -/
structure SAc (w : World) (v : M2.View) (base S : Nat) (ka kw kh kd vp c5 vn vs vf vo fo0 fo la : Value) (R : M3.GG) (found : List M2.Fnd) (last : List Nat) (wr : World) : Prop where
  sg : SG v base S ka kw kh kd vp c5 vn vs vf vo fo la R found last wr
  md : Mod (Ad S fo0 la) w wr
  ff : Fresh w fo0 fo
section
variable {w : World} {v : M2.View} {base S : Nat} {ka kw kh kd vp c5 vn vs vf vo fo0 fo la : Value} {R : M3.GG} {found : List M2.Fnd} {last : List Nat} {wr wr' : World}
theorem SAc.no (h : SAc w v base S ka kw kh kd vp c5 vn vs vf vo fo0 fo la R found last wr) (hm : Mod No wr wr') : SAc w v base S ka kw kh kd vp c5 vn vs vf vo fo0 fo la R found last wr' := ⟨h.sg.no hm, h.md.no hm, h.ff⟩
theorem SAc.add {fo' : Value} {f2 : List M2.Fnd} {l2 : List Nat} (h : SAc w v base S ka kw kh kd vp c5 vn vs vf vo fo0 fo la R found last wr) (hs : SG v base S ka kw kh kd vp c5 vn vs vf vo fo' la R f2 l2 wr') (hf : Fresh wr fo fo') (hm : Mod (Ad S fo la) wr wr') : SAc w v base S ka kw kh kd vp c5 vn vs vf vo fo0 fo' la R f2 l2 wr' := by
  refine ⟨hs, h.md.trans' hm (fun q hq e => ?_), h.ff.trans hf h.md.size⟩
  rcases e with e | e | e
  · exact Or.inl e
  · rcases h.ff q e with e2 | e2
    · exact Or.inr (Or.inl e2)
    · omega
  · exact Or.inr (Or.inr e)
end

set_option maxHeartbeats 1600000 in
set_option maxRecDepth 100000 in
theorem begin_any (w : World) (v : M2.View) (base S : Nat) (ka kw kh kd vp vn vs vf vo : Value) (R : M3.GG) (h : SG v base S ka kw kh kd vp (.int .i64 (R.st : Int)) vn vs vf vo nilS nilS R [] [] w) (hpl : R.g.pairs.length ≤ 100000) (hst : R.st ≤ 100000) {found : List M2.Fnd} {last : List Nat} (hM : M3.beginGo R.on R.st 0 [] (List.replicate R.g.pairs.length 0) = some (found, last)) :
    Calls Tryz.prog 65 #[.pointer (some ⟨S, 0, none⟩)] w fun e w' => e = .returned (.tuple #[]) ∧ ∃ fo la, SG v base S ka kw kh kd vp (.int .i64 (R.st : Int)) vn vs vf vo fo la R found last w' ∧ Mod (fun k => k = S) w w' ∧ (∀ q, fo.ownBlock = some q → w.heap.size ≤ q) ∧ (∀ q, la.ownBlock = some q → w.heap.size ≤ q) := by
  obtain ⟨NP, hNP⟩ : ∃ N, N = R.g.pairs.length := ⟨_, rfl⟩
  obtain ⟨ST, hST⟩ : ∃ N, N = R.st := ⟨_, rfl⟩
  obtain ⟨pA, pC, evp, -, -⟩ := h.pr.open (n := NP) hNP.symm
  rw [← hNP] at hM hpl
  rw [← hST] at hM h hst ⊢
  have HI : Hid (SG v base S ka kw kh kd vp (.int .i64 (ST : Int)) vn vs vf vo nilS nilS R [] [] w) := h
  have HM : Hid (M3.beginGo R.on ST 0 [] (List.replicate NP 0) = some (found, last)) := hM
  have hmk := make_ints NP (by omega)
  have k4 := h.blk.cell 4 rfl
  rw [evp] at k4
  have K11 := h.blk.cellA 11 rfl
  have F11 := h.blk.freeA 11
  have hSne : ¬ S = w.heap.size := by have := h.blk.lt; omega
  have HI0 : Hid (∀ A, A = Obj.cells (Array.replicate NP (.int .i64 0)) 3 → SG v base S ka kw kh kd vp (.int .i64 (ST : Int)) vn vs vf vo nilS (.slice (some ⟨w.heap.size, 0, none⟩) NP NP) R [] (List.replicate NP 0) ((w.alloc A).setCell ⟨S, 11, none⟩ (.slice (some ⟨w.heap.size, 0, none⟩) NP NP)) ∧ Mod (fun k => k = S) w ((w.alloc A).setCell ⟨S, 11, none⟩ (.slice (some ⟨w.heap.size, 0, none⟩) NP NP))) := by
    intro A hA
    subst hA
    have hr : Row InE (w.alloc (Obj.cells (Array.replicate NP (.int .i64 0)) 3)) (.slice (some ⟨w.heap.size, 0, none⟩) NP NP) (List.replicate NP 0) := by
      have e : ((List.replicate NP (.int .i64 0)).toArray : Array Value) = Array.replicate NP (.int .i64 0) := by simp
      have b0 : Blk (w.alloc (Obj.cells (Array.replicate NP (.int .i64 0)) 3)) w.heap.size ((List.replicate NP (0 : Nat)).flatMap InE.f) 3 := by rw [ints_zero]; unfold Blk; rw [e]; exact heap_alloc_new w _
      have r0 := Row.of_block (E := InE) b0 (by simp; unfold maxLen; omega)
      rw [List.length_replicate] at r0
      exact r0
    have h1 := h.no (w' := w.alloc (Obj.cells (Array.replicate NP (.int .i64 0)) 3)) ((Mod.refl _ _).alloc _)
    have hm2 : Mod (fun k => k = S) (w.alloc (Obj.cells (Array.replicate NP (.int .i64 0)) 3)) ((w.alloc (Obj.cells (Array.replicate NP (.int .i64 0)) 3)).setCell ⟨S, 11, none⟩ (.slice (some ⟨w.heap.size, 0, none⟩) NP NP)) := (Mod.refl (fun k => k = S) _).setCell (a := ⟨S, 11, none⟩) (fun _ => rfl) _
    have hs2 := Safe.one h1.blk
    refine ⟨⟨h1.blk.set 11 _, h1.vw.far hm2 hs2 (by decide) (by decide), h1.pr.safe hm2 hs2 (by decide) (by decide), h1.sp.safe hm2 hs2 (by decide) (by decide), h1.fi.safe hm2 hs2 (by decide) (by decide), h1.on.safe hm2 hs2 (by decide) (by decide), Row.nil _ _, hr.safe hm2 hs2 (by decide) (by decide), fun q hq e => ?_, fun q hq e => ?_⟩, ((Mod.refl (fun k => k = S) _).alloc _).setCell (a := ⟨S, 11, none⟩) (fun _ => rfl) _⟩
    · cases hq
      exact Nat.lt_irrefl _ (h.fi.lt e)
    · cases hq
      exact Nat.lt_irrefl _ (h.on.lt e)
  have HST : Hid (ST = R.st) := hST
  clear h hM hNP hST evp
  go_enter Tryz.func65, Tryz.ntmps65
  go_wp2_with fail
  have HI1 := HI0.out _ rfl
  have HI1 : Hid (SAc ((w.alloc (Obj.cells (Array.replicate NP (.int .i64 0)) 3)).setCell ⟨S, 11, none⟩ (.slice (some ⟨w.heap.size, 0, none⟩) NP NP)) v base S ka kw kh kd vp (.int .i64 (ST : Int)) vn vs vf vo nilS nilS (.slice (some ⟨w.heap.size, 0, none⟩) NP NP) R [] (List.replicate NP 0) ((w.alloc (Obj.cells (Array.replicate NP (.int .i64 0)) 3)).setCell ⟨S, 11, none⟩ (.slice (some ⟨w.heap.size, 0, none⟩) NP NP)) ∧ Mod (fun k => k = S) w ((w.alloc (Obj.cells (Array.replicate NP (.int .i64 0)) 3)).setCell ⟨S, 11, none⟩ (.slice (some ⟨w.heap.size, 0, none⟩) NP NP))) := ⟨⟨HI1.1, Mod.refl _ _, Fresh.refl _ _⟩, HI1.2⟩
  clear HI0 hmk k4 K11 F11
  generalize (w.alloc (Obj.cells (Array.replicate NP (.int .i64 0)) 3)).setCell ⟨S, 11, none⟩ (.slice (some ⟨w.heap.size, 0, none⟩) NP NP) = W0 at HI1 ⊢
  obtain ⟨LA, hLA⟩ : ∃ L, L = Value.slice (some ⟨w.heap.size, 0, none⟩) NP NP := ⟨_, rfl⟩
  have HLA : Hid (LA.ownBlock = some w.heap.size) := by rw [hLA]; rfl
  rw [← hLA] at HI1
  clear hLA
  go_loopg [2] ST (fun gh v2 wr => ∃ (i : Nat) (fo : Value) (f1 : List M2.Fnd) (l1 : List Nat), i ≤ ST ∧ gh = ST - i ∧ v2 = .int .i64 (i : Int) ∧ M3.beginGo R.on gh i f1 l1 = some (found, last) ∧ SAc W0 v base S ka kw kh kd vp (.int .i64 (ST : Int)) vn vs vf vo nilS fo LA R f1 l1 wr)
  case atStart => exact ⟨0, nilS, [], _, by omega, by omega, rfl, HM.out, HI1.out.1⟩
  case round =>
    clear HM HI
    have HM0 : Hid (Mod (fun k => k = S) w W0) := HI1.out.2
    clear HI1
    obtain ⟨i, fo, f1, l1, hin, hgk, rfl, hgo, hI⟩ := hrel
    have HI : Hid (SAc W0 v base S ka kw kh kd vp (.int .i64 (ST : Int)) vn vs vf vo nilS fo LA R f1 l1 wr) := hI
    have k5 := hI.sg.blk.cell 5 rfl
    by_cases hlt : i < ST
    · obtain ⟨c, hc⟩ : ∃ c, gk = c + 1 := ⟨ST - (i + 1), by omega⟩
      rw [hc] at hgo
      obtain ⟨f2, l2, ha, hnx⟩ := beginGo_step hgo
      have h56 := sadd_any wr v base S ka kw kh kd vp (.int .i64 (ST : Int)) vn vs vf vo fo LA R f1 l1 hI.sg i [] [] (-1) 0 ha
      have HNX : Hid (M3.beginGo R.on c (i + 1) f2 l2 = some (found, last)) := hnx
      have HC : Hid (c = ST - (i + 1)) := by show c = ST - (i + 1); omega
      have hii : (i : Int) < (ST : Int) := by omega
      clear hI hgo ha hnx hc
      go_wp2_with fail
      refine h56.mono ?_
      rintro e w8 ⟨rfl, fo2, hS8, hf8, hm8⟩
      have HI8 : Hid (SAc W0 v base S ka kw kh kd vp (.int .i64 (ST : Int)) vn vs vf vo nilS fo2 LA R f2 l2 w8) := HI.out.add hS8 hf8 hm8
      clear h56 hS8 hf8 hm8 HI k5
      go_wp2
      go_roundg (ST - (i + 1))
      case measure => omega
      case rel => exact ⟨i + 1, fo2, f2, l2, by omega, rfl, by go_num, by rw [← HC.out]; exact HNX.out, HI8.out⟩
    · have hi2 : i = ST := by omega
      rw [hgk, hi2, Nat.sub_self] at hgo
      have HG : Hid (f1 = found ∧ l1 = last) := by cases hgo; exact ⟨rfl, rfl⟩
      have hii : ¬ (i : Int) < (ST : Int) := by omega
      clear hI hgo hgk hi2
      go_wp2
      go_end0
      have hI := HI.out
      rw [HG.out.1, HG.out.2] at hI
      have hs0 := HM0.out.size
      refine ⟨rfl, fo, LA, hI.sg, HM0.out.trans' hI.md (fun q hq e => ?_), fun q hq => ?_, fun q hq => ?_⟩
      · rcases e with e | e | e
        · exact e
        · cases e
        · rw [HLA.out] at e; cases e; omega
      · rcases hI.ff q hq with e | e
        · cases e
        · omega
      · rw [HLA.out] at hq; cases hq; exact Nat.le_refl _
end Go.Proofs.YtmbapmbpnnaanabGreatDoor
