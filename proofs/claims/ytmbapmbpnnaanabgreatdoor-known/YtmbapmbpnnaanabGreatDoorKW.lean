import Derived.Test.YtmbapmbpnnaanabGreatDoorKU
import Derived.Test.YtmbapmbpnnaanabGreatDoorKP
namespace Go.Proofs.YtmbapmbpnnaanabGreatDoor
open Go.RowKit
attribute [local go_sem ↓] Go.wp_at_zero Go.wp_at_succ

structure MOk (m : M2.Meet) : Prop where
  len : m.nums.length ≤ 262145
  val : ∀ u ∈ m.nums, u ≤ m.met.length
  mem : ∀ y ∈ m.met, y < 262145
theorem number_ok {m m' : M2.Meet} {x k : Nat} (h : MOk m) (hM : M2.numberM m x = some (k, m')) : MOk m' ∧ m'.met.length ≤ m.met.length + 1 := by
  unfold M2.numberM at hM
  cases hu : m.nums[x]? with
  | none => rw [hu] at hM; cases hM
  | some u =>
    rw [hu] at hM
    have hxl : x < m.nums.length := (List.getElem?_eq_some_iff.1 hu).1
    match u, hM with
    | 0, hM =>
      simp only [Option.some.injEq, Prod.mk.injEq] at hM
      obtain ⟨rfl, rfl⟩ := hM
      refine ⟨⟨by simpa using h.len, fun u hu => ?_, fun y hy => ?_⟩, by simp⟩
      · rcases List.mem_or_eq_of_mem_set hu with h1 | h1
        · have := h.val u h1; simp; omega
        · simp; omega
      · rcases List.mem_append.1 hy with h1 | h1
        · exact h.mem y h1
        · rw [List.mem_singleton.1 h1]; have := h.len; omega
    | u + 1, hM =>
      simp only [Option.some.injEq, Prod.mk.injEq] at hM
      obtain ⟨rfl, rfl⟩ := hM
      exact ⟨h, by omega⟩
theorem four_spec {f : Nat → M2.Meet → Option (Nat × M2.Meet)} {m m4 : M2.Meet} {r : Mir.R4} (h : M2.four f m = some (r, m4)) :
    ∃ (Ms : Nat → M2.Meet) (Nv : Nat → Nat), Ms 0 = m ∧ Ms 4 = m4 ∧ r = ⟨Nv 0, Nv 1, Nv 2, Nv 3⟩ ∧ ∀ l, l < 4 → f l (Ms l) = some (Nv l, Ms (l + 1)) := by
  unfold M2.four at h
  cases h0 : f 0 m with
  | none => simp [h0] at h
  | some x0 =>
    obtain ⟨a, m1⟩ := x0
    simp only [h0] at h
    cases h1 : f 1 m1 with
    | none => simp [h1] at h
    | some x1 =>
      obtain ⟨b, m2⟩ := x1
      simp only [h1] at h
      cases h2 : f 2 m2 with
      | none => simp [h2] at h
      | some x2 =>
        obtain ⟨c, m3⟩ := x2
        simp only [h2] at h
        cases h3 : f 3 m3 with
        | none => simp [h3] at h
        | some x3 =>
          obtain ⟨d, m5⟩ := x3
          simp only [h3, Option.some.injEq, Prod.mk.injEq] at h
          obtain ⟨rfl, rfl⟩ := h
          refine ⟨fun l => match l with | 0 => m | 1 => m1 | 2 => m2 | 3 => m3 | _ => m5, fun l => match l with | 0 => a | 1 => b | 2 => c | _ => d, rfl, rfl, rfl, fun l hl => ?_⟩
          match l, hl with
          | 0, _ => exact h0
          | 1, _ => exact h1
          | 2, _ => exact h2
          | 3, _ => exact h3

def netC (vp : Value) (x : Mir.Piece) : List Value := [vp, .bool x.e, .int .u32 (x.f : Int), .int .u32 (x.l : Int)]
/-- Where 'walk' stands. -/
structure WI (w : World) (vp : Value) (x : Mir.Piece) (X R M A : Nat) (vn vm : Value) (m : M2.Meet) (vx vh : Value) (au : M2.Auto) (wr : World) : Prop where
  net : Blk wr X (netC vp x) 136
  res : Blk wr R [.slice none 0 0, .slice none 0 0] 142
  meet : MeetI wr M vm vn m
  aut : Blk wr A [vx, vh] 142
  nx : Row R4E wr vx au.nx
  hit : Row BoE wr vh au.hit
  md : Mod No w wr
  om : ∀ g, vm.ownBlock = some g → w.heap.size ≤ g
  on : ∀ g, vn.ownBlock = some g → w.heap.size ≤ g
  ox : ∀ g, vx.ownBlock = some g → w.heap.size ≤ g
  oh : ∀ g, vh.ownBlock = some g → w.heap.size ≤ g
  oM : w.heap.size ≤ M
  oA : w.heap.size ≤ A
  oR : w.heap.size ≤ R
  nAR : A ≠ R
section
variable {w : World} {vp : Value} {x : Mir.Piece} {X R M A : Nat} {vn vm : Value} {m : M2.Meet} {vx vh : Value} {au : M2.Auto} {wr wr' : World}
theorem MeetI.no (h : MeetI wr M vm vn m) (hm : Mod No wr wr') : MeetI wr' M vm vn m := ⟨h.blk.mod hm (fun x => x), h.met.no hm, h.num.no hm, h.nmb, h.nnb, h.nmn⟩
theorem WI.no (h : WI w vp x X R M A vn vm m vx vh au wr) (hm : Mod No wr wr') : WI w vp x X R M A vn vm m vx vh au wr' :=
  ⟨h.net.mod hm (fun x => x), h.res.mod hm (fun x => x), h.meet.no hm, h.aut.mod hm (fun x => x), h.nx.no hm, h.hit.no hm, h.md.no hm, h.om, h.on, h.ox, h.oh, h.oM, h.oA, h.oR, h.nAR⟩
/-- Behind 'number'. -/
theorem WI.num {vm' : Value} {m' : M2.Meet} (h : WI w vp x X R M A vn vm m vx vh au wr) (h2 : MeetI wr' M vm' vn m') (hf : Fresh wr vm vm') (hm : Mod (Mt M vm vn) wr wr') : WI w vp x X R M A vn vm' m' vx vh au wr' := by
  have key : ∀ {b : Nat} {cs : List Value} {T : Nat}, Blk wr b cs T → T ≠ 248 → T ≠ 3 → ¬ Mt M vm vn b := fun {b cs T} hb h1 h3 hS => by
    rcases hS with rfl | hS | hS
    · exact hb.diff h.meet.blk h1 rfl
    · exact hb.apart h.meet.met h3 hS
    · exact hb.apart h.meet.num h3 hS
  refine ⟨h.net.mod hm (key h.net (by decide) (by decide)), h.res.mod hm (key h.res (by decide) (by decide)), h2, h.aut.mod hm (key h.aut (by decide) (by decide)), h.nx.mod hm ?_, h.hit.mod hm ?_, h.md.own hm ?_, ?_, h.on, h.ox, h.oh, h.oM, h.oA, h.oR, h.nAR⟩
  · rintro g hg (rfl | hS | hS)
    · exact h.meet.blk.apart h.nx (by decide) hg
    · exact h.meet.met.apart h.nx (by decide) hS hg
    · exact h.meet.num.apart h.nx (by decide) hS hg
  · rintro g hg (rfl | hS | hS)
    · exact h.meet.blk.apart h.hit (by decide) hg
    · exact h.meet.met.apart h.hit (by decide) hS hg
    · exact h.meet.num.apart h.hit (by decide) hS hg
  · rintro k (rfl | hS | hS)
    · exact h.oM
    · exact h.om k hS
    · exact h.on k hS
  · intro g hg
    rcases hf g hg with h3 | h3
    · exact h.om g h3
    · exact Nat.le_trans h.md.size h3
end

section
variable {w : World} {vp : Value} {x : Mir.Piece} {X R M A : Nat} {vn vm : Value} {m : M2.Meet} {vx vh : Value} {au : M2.Auto} {wr wr' : World}
/-- Behind a change of one block that is none of theirs. -/
theorem WI.side {S : Nat → Prop} (h : WI w vp x X R M A vn vm m vx vh au wr) (hm : Mod S wr wr') (hS : ∀ k, S k → w.heap.size ≤ k ∧ k ≠ X ∧ k ≠ R ∧ k ≠ M ∧ k ≠ A ∧ vm.ownBlock ≠ some k ∧ vn.ownBlock ≠ some k ∧ vx.ownBlock ≠ some k ∧ vh.ownBlock ≠ some k) : WI w vp x X R M A vn vm m vx vh au wr' :=
  ⟨h.net.mod hm (fun e => (hS _ e).2.1 rfl), h.res.mod hm (fun e => (hS _ e).2.2.1 rfl), ⟨h.meet.blk.mod hm (fun e => (hS _ e).2.2.2.1 rfl), h.meet.met.mod hm (fun _g hg e => (hS _ e).2.2.2.2.2.1 hg), h.meet.num.mod hm (fun _g hg e => (hS _ e).2.2.2.2.2.2.1 hg), h.meet.nmb, h.meet.nnb, h.meet.nmn⟩,
   h.aut.mod hm (fun e => (hS _ e).2.2.2.2.1 rfl), h.nx.mod hm (fun _g hg e => (hS _ e).2.2.2.2.2.2.2.1 hg), h.hit.mod hm (fun _g hg e => (hS _ e).2.2.2.2.2.2.2.2 hg), h.md.own hm (fun k e => (hS k e).1), h.om, h.on, h.ox, h.oh, h.oM, h.oA, h.oR, h.nAR⟩
theorem WI.put {Q : Nat} {cs : List Value} (h : WI w vp x X R M A vn vm m vx vh au wr) (hQ : Blk wr Q cs 106) (h0 : w.heap.size ≤ Q) (hx : vx.ownBlock ≠ some Q) (j : Nat) (v : Value) : WI w vp x X R M A vn vm m vx vh au (wr.setCell ⟨Q, j, none⟩ v) := by
  refine h.side (S := fun k => k = Q) ((Mod.refl (fun k => k = Q) wr).setCell (a := ⟨Q, j, none⟩) (fun _ => rfl) v) ?_
  rintro k rfl
  exact ⟨h0, hQ.diff h.net (by decide), hQ.diff h.res (by decide), hQ.diff h.meet.blk (by decide), hQ.diff h.aut (by decide), hQ.apart h.meet.met (by decide), hQ.apart h.meet.num (by decide), hx, hQ.apart h.hit (by decide)⟩
/-- One row more. -/
theorem WI.moreX {w7 : World} {v2 : Value} {nx2 : List Mir.R4} (h : WI w vp x X R M A vn vm m vx vh au wr) (hg : wr.grownBy w7 vx.ownBlock) (hrow : Row R4E w7 v2 nx2) (hf : Fresh wr vx v2) : WI w vp x X R M A vn vm m v2 vh ⟨nx2, au.hit⟩ (w7.setCell ⟨A, 0, none⟩ v2) := by
  have kb : ∀ {b : Nat} {cs : List Value} {T : Nat}, Blk wr b cs T → T ≠ 106 → Blk w7 b cs T := fun hb ht => hb.grown hg (fun e => hb.apart h.nx ht e.symm)
  have kr : ∀ {α : Type} {E : Enc α} {v : Value} {xs : List α}, Row E wr v xs → E.T ≠ 106 → Row E w7 v xs := fun {α E v xs} hr ht => hr.grown hg (by
    cases e : v.ownBlock with
    | none => exact .inl rfl
    | some g => exact .inr fun e2 => hr.apart h.nx ht e e2.symm)
  have hA := kb h.aut (by decide)
  have ho : ∀ g, v2.ownBlock = some g → w.heap.size ≤ g := fun g e => by
    rcases hf g e with h1 | h1
    · exact h.ox g h1
    · exact Nat.le_trans h.md.size h1
  have hX := kb h.net (by decide)
  have hR := kb h.res (by decide)
  have hMb := kb h.meet.blk (by decide)
  have hmt := kr h.meet.met (by decide)
  have hnm := kr h.meet.num (by decide)
  have hht := kr h.hit (by decide)
  have hm7 : Mod No w w7 := h.md.own (Mod.of_grown (S := fun k => vx.ownBlock = some k) hg fun g e => e) fun k e => h.ox k e
  exact ⟨hX.other (a := ⟨A, 0, none⟩) (hX.diff hA (by decide)) _, hR.other (a := ⟨A, 0, none⟩) (fun e => h.nAR e.symm) _,
    ⟨hMb.other (a := ⟨A, 0, none⟩) (hMb.diff hA (by decide)) _, hmt.other (a := ⟨A, 0, none⟩) (hA.apart hmt (by decide)) _, hnm.other (a := ⟨A, 0, none⟩) (hA.apart hnm (by decide)) _, h.meet.nmb, h.meet.nnb, h.meet.nmn⟩,
    hA.set 0 v2, hrow.other (a := ⟨A, 0, none⟩) (hA.apart hrow (by decide)) _, hht.other (a := ⟨A, 0, none⟩) (hA.apart hht (by decide)) _,
    hm7.setCell (a := ⟨A, 0, none⟩) (fun e => absurd e (by have := h.oA; simp; omega)) _, h.om, h.on, ho, h.oh, h.oM, h.oA, h.oR, h.nAR⟩
/-- One hit more. -/
theorem WI.moreH {w7 : World} {v2 : Value} {ht2 : List Bool} (h : WI w vp x X R M A vn vm m vx vh au wr) (hg : wr.grownBy w7 vh.ownBlock) (hrow : Row BoE w7 v2 ht2) (hf : Fresh wr vh v2) : WI w vp x X R M A vn vm m vx v2 ⟨au.nx, ht2⟩ (w7.setCell ⟨A, 1, none⟩ v2) := by
  have kb : ∀ {b : Nat} {cs : List Value} {T : Nat}, Blk wr b cs T → T ≠ 4 → Blk w7 b cs T := fun hb ht => hb.grown hg (fun e => hb.apart h.hit ht e.symm)
  have kr : ∀ {α : Type} {E : Enc α} {v : Value} {xs : List α}, Row E wr v xs → E.T ≠ 4 → Row E w7 v xs := fun {α E v xs} hr ht => hr.grown hg (by
    cases e : v.ownBlock with
    | none => exact .inl rfl
    | some g => exact .inr fun e2 => hr.apart h.hit ht e e2.symm)
  have hA := kb h.aut (by decide)
  have ho : ∀ g, v2.ownBlock = some g → w.heap.size ≤ g := fun g e => by
    rcases hf g e with h1 | h1
    · exact h.oh g h1
    · exact Nat.le_trans h.md.size h1
  have hX := kb h.net (by decide)
  have hR := kb h.res (by decide)
  have hMb := kb h.meet.blk (by decide)
  have hmt := kr h.meet.met (by decide)
  have hnm := kr h.meet.num (by decide)
  have hnx := kr h.nx (by decide)
  have hm7 : Mod No w w7 := h.md.own (Mod.of_grown (S := fun k => vh.ownBlock = some k) hg fun g e => e) fun k e => h.oh k e
  exact ⟨hX.other (a := ⟨A, 1, none⟩) (hX.diff hA (by decide)) _, hR.other (a := ⟨A, 1, none⟩) (fun e => h.nAR e.symm) _,
    ⟨hMb.other (a := ⟨A, 1, none⟩) (hMb.diff hA (by decide)) _, hmt.other (a := ⟨A, 1, none⟩) (hA.apart hmt (by decide)) _, hnm.other (a := ⟨A, 1, none⟩) (hA.apart hnm (by decide)) _, h.meet.nmb, h.meet.nnb, h.meet.nmn⟩,
    hA.set 1 v2, hnx.other (a := ⟨A, 1, none⟩) (hA.apart hnx (by decide)) _, hrow.other (a := ⟨A, 1, none⟩) (hA.apart hrow (by decide)) _,
    hm7.setCell (a := ⟨A, 1, none⟩) (fun e => absurd e (by have := h.oA; simp; omega)) _, h.om, h.on, h.ox, ho, h.oM, h.oA, h.oR, h.nAR⟩
end
/-- Four numbers, the first l of them laid. -/
def qc (Nv : Nat → Nat) (l : Nat) : List Value := [.int .i64 ((if 0 < l then Nv 0 else 0 : Nat) : Int), .int .i64 ((if 1 < l then Nv 1 else 0 : Nat) : Int), .int .i64 ((if 2 < l then Nv 2 else 0 : Nat) : Int), .int .i64 ((if 3 < l then Nv 3 else 0 : Nat) : Int)]
theorem qc_set (Nv : Nat → Nat) (l : Nat) (hl : l < 4) : (qc Nv l).set l (.int .i64 (Nv l : Int)) = qc Nv (l + 1) := by
  match l, hl with
  | 0, _ => rfl
  | 1, _ => rfl
  | 2, _ => rfl
  | 3, _ => rfl
theorem ms_ok {Ms : Nat → M2.Meet} {Nv : Nat → Nat} {f : Nat → Nat} (h0 : MOk (Ms 0)) (hs : ∀ l, l < 4 → M2.numberM (Ms l) (f l) = some (Nv l, Ms (l + 1))) : ∀ l, l ≤ 4 → MOk (Ms l) ∧ (Ms l).met.length ≤ (Ms 0).met.length + l
  | 0, _ => ⟨h0, by omega⟩
  | l + 1, hl => by
    have ih := ms_ok h0 hs l (by omega)
    have := number_ok ih.1 (hs l (by omega))
    exact ⟨this.1, by omega⟩

def AutoPost (a : M2.Auto) (w : World) (e : Ending) (w' : World) : Prop :=
  Mod No w w' ∧ ∃ vx vh, e = .returned (.agg #[vx, vh]) ∧ Row R4E w' vx a.nx ∧ Row BoE w' vh a.hit ∧ (∀ g, vx.ownBlock = some g → w.heap.size ≤ g) ∧ (∀ g, vh.ownBlock = some g → w.heap.size ≤ g) ∧ a.nx.length = a.hit.length ∧ a.nx.length ≤ 300000

end Go.Proofs.YtmbapmbpnnaanabGreatDoor
namespace Go.Proofs.YtmbapmbpnnaanabGreatDoor
open Go.RowKit
attribute [local go_sem ↓] Go.wp_at_zero Go.wp_at_succ

set_option maxHeartbeats 800000 in
set_option maxRecDepth 100000 in
theorem walk_any (w : World) (vp : Value) (base : Nat) (r : Mir.Rule) (hok : RuOk w base r vp) {a : M2.Auto} (hM : M2.walk r = some a) :
    Calls Tryz.prog 86 #[netV vp r.wh] w fun e w' => AutoPost a w e w' := by
  unfold M2.walk at hM
  by_cases h18 : 18 < r.ps.length
  · rw [if_pos h18] at hM; cases hM
  · rw [if_neg h18] at hM
    have hl : r.ps.length ≤ 18 := by omega
    have hh := hit_lt hl
    have hH1 : 1 ≤ M2.hitN r.ps := by unfold M2.hitN; rw [bit_pow]; exact Nat.one_le_two_pow
    have HST : Hid (∀ wx, Mod No w wx → Calls Tryz.prog 121 #[netV vp r.wh] wx fun e w' => e = .returned (.int .i64 ((M2.hitN r.ps + 1 : Nat) : Int)) ∧ Mod No wx w') := fun wx hm => states_any wx vp r.ps r.wh (hok.row.no hm) hl
    have HSR : Hid (∀ wx, Mod No w wx → Calls Tryz.prog 123 #[netV vp r.wh] wx fun e w' => e = .returned (.int .i64 ((if r.wh.e then M2.hitN r.ps else r.wh.f : Nat) : Int)) ∧ Mod No wx w') := fun wx hm => start_any wx vp r.ps r.wh (hok.row.no hm) hl hok.wh
    have HSP : Hid (∀ (wx : World) (st l : Nat), Mod No w wx → st < B32 → l < 4 → Calls Tryz.prog 124 #[netV vp r.wh, .int .i64 (st : Int), .int .i64 (l : Int)] wx fun e w' => e = .returned (.int .i64 (M2.stepN r.ps r.wh st l : Int)) ∧ Mod No wx w') := fun wx st l hm hst hl4 => netStep_any wx vp r.ps r.wh st l (hok.row.no hm) hl hok.ps hok.wh hst hl4
    have HIS : Hid (∀ (wx : World) (st : Nat), Mod No w wx → Calls Tryz.prog 125 #[netV vp r.wh, .int .i64 (st : Int)] wx fun e w' => e = .returned (.bool (decide (st = M2.hitN r.ps))) ∧ Mod No wx w') := fun wx st hm => isHit_any wx vp r.ps r.wh st (hok.row.no hm) hl
    obtain ⟨va, vcap, hvp, -, -, -⟩ := hok.row.any
    generalize hvn : r.ps.length = n0 at hvp
    clear hvn
    generalize hs0 : (if r.wh.e then M2.hitN r.ps else r.wh.f) = s0 at hM HSR
    clear hs0
    obtain ⟨H, hHd⟩ : ∃ H, H = M2.hitN r.ps := ⟨_, rfl⟩
    rw [← hHd] at hM hh hH1 HST HIS
    have HW : Hid (∀ f i st m au, m.met[i]? = some st → M2.walkM r.ps r.wh (f + 1) i m au = match M2.four (fun l m => M2.numberM m (M2.stepN r.ps r.wh st l)) m with | none => none | some (rr, m) => M2.walkM r.ps r.wh f (i + 1) m ⟨au.nx ++ [rr], au.hit ++ [decide (st = H)]⟩) := fun f i st m au hm => by
      rw [M2.walkM, hm, hHd]
      dsimp only
      generalize M2.four (fun l m => M2.numberM m (M2.stepN r.ps r.wh st l)) m = y
      cases y <;> rfl
    have HW0 : Hid (∀ f i m au, m.met[i]? = none → M2.walkM r.ps r.wh (f + 1) i m au = some au) := fun f i m au hm => by rw [M2.walkM, hm]
    have HWZ : Hid (∀ i m au, M2.walkM r.ps r.wh 0 i m au = none) := fun i m au => by rw [M2.walkM]
    generalize M2.walkM r.ps r.wh = WM at hM HW HW0 HWZ
    generalize M2.stepN r.ps r.wh = SN at HSP HW
    cases hn0 : M2.numberM ⟨[], List.replicate (H + 1) 0⟩ s0 with
    | none => rw [hn0] at hM; cases hM
    | some y =>
      obtain ⟨k0, m0⟩ := y
      rw [hn0] at hM
      have HM : Hid (WM (H + 2) 0 m0 ⟨[], []⟩ = some a) := hM
      obtain ⟨N, hN⟩ : ∃ N, N = H + 1 := ⟨_, rfl⟩
      have hmk := make_ints N (by omega)
      have hok0 : MOk ⟨[], List.replicate (H + 1) 0⟩ := ⟨by simp; omega, fun u hu => by rw [List.eq_of_mem_replicate hu]; exact Nat.zero_le _, fun y hy => by cases hy⟩
      have hok1 := number_ok hok0 hn0
      rw [← hN] at HST hn0
      have HNH : Hid (N = H + 1) := hN
      have HN0 : Hid (M2.numberM ⟨[], List.replicate N 0⟩ s0 = some (k0, m0)) := hn0
      have HOK1 : Hid (MOk m0 ∧ m0.met.length ≤ 1) := hok1
      clear hN hok0 hok1 hn0 hHd
      subst hvp
      clear hM hok h18
      unfold netV at *
      generalize r.wh = x at *
      go_enter Tryz.func86, Tryz.ntmps86
      go_wp2_with fail
      refine (HST.out _ (((Mod.refl _ _).alloc _).alloc _)).mono ?_
      rintro e w1 ⟨rfl, m1⟩
      have hX1 : Blk w1 w.heap.size (netC (.slice va n0 vcap) x) 136 := Blk.mod (new2_0 w _ _) m1 (fun x => x)
      have hR1 : Blk w1 (w.heap.size + 1) [.slice none 0 0, .slice none 0 0] 142 := Blk.mod (new2_1 w _ _) m1 (fun x => x)
      have hm1 : Mod No w w1 := (((Mod.refl _ _).alloc _).alloc _).no m1
      clear m1 HST
      have hb1 : w.heap.size + 1 < w1.heap.size := hR1.lt
      obtain ⟨w2, hw2⟩ : ∃ w2, (w1.alloc (Obj.cells (Array.replicate N (.int .i64 0)) 3)).alloc (Obj.cells #[.slice none 0 0, .slice (some ⟨w1.heap.size, 0, none⟩) N N] 248) = w2 := ⟨_, rfl⟩
      have hX2 : Blk w2 w.heap.size (netC (.slice va n0 vcap) x) 136 := by rw [← hw2]; exact (hX1.alloc _).alloc _
      have hR2 : Blk w2 (w.heap.size + 1) [.slice none 0 0, .slice none 0 0] 142 := by rw [← hw2]; exact (hR1.alloc _).alloc _
      have hm2 : Mod No w w2 := by rw [← hw2]; exact (hm1.alloc _).alloc _
      have hI2 : MeetI w2 (w1.heap.size + 1) (.slice none 0 0) (.slice (some ⟨w1.heap.size, 0, none⟩) N N) ⟨[], List.replicate N 0⟩ := by
        have hnum : Row InE w2 (.slice (some ⟨w1.heap.size, 0, none⟩) N N) (List.replicate N 0) := by
          have hb : Blk w2 w1.heap.size ((List.replicate N (0 : Nat)).flatMap InE.f) 3 := by
            rw [ints_zero, ← hw2]
            have := (new2_0 w1 (Obj.cells (Array.replicate N (.int .i64 0)) 3) (Obj.cells #[.slice none 0 0, .slice (some ⟨w1.heap.size, 0, none⟩) N N] 248))
            unfold Blk
            rw [this]
            simp
          have := Row.of_block hb (by simp; unfold maxLen; have := HNH.out; omega)
          simpa using this
        refine ⟨by rw [← hw2]; exact new2_1 w1 _ _, Row.nil _ _, hnum, by simp [Value.ownBlock], by simp [Value.ownBlock], fun g hg => by cases hg⟩
      have x0 := hX2.cell 0 rfl
      have x1 := hX2.cell 1 rfl
      have x2 := hX2.cell 2 rfl
      have x3 := hX2.cell 3 rfl
      have HX2 : Hid (Blk w2 w.heap.size (netC (.slice va n0 vcap) x) 136 ∧ Blk w2 (w.heap.size + 1) [.slice none 0 0, .slice none 0 0] 142 ∧ Mod No w w2 ∧ MeetI w2 (w1.heap.size + 1) (.slice none 0 0) (.slice (some ⟨w1.heap.size, 0, none⟩) N N) ⟨[], List.replicate N 0⟩) := ⟨hX2, hR2, hm2, hI2⟩
      clear hX1 hR1 hm1 hX2 hR2 hm2 hI2
      go_wp2_with fail
      refine (HSR.out _ HX2.out.2.2.1).mono ?_
      rintro e w3 ⟨rfl, m3⟩
      clear HSR hw2 hmk x0 x1 x2 x3
      have HI3 := HX2.out.2.2.2.no m3
      have hok0 : MOk ⟨[], List.replicate N 0⟩ := ⟨by simp; have := HNH.out; omega, fun u hu => by rw [List.eq_of_mem_replicate hu]; exact Nat.zero_le _, fun y hy => by cases hy⟩
      have hnum := number_any' w3 (w1.heap.size + 1) _ _ _ m0 s0 k0 HI3 HN0.out (by simp) (by have := hok0.len; omega) (fun u hu => by have := hok0.val u hu; simp at this; omega)
      clear HI3 hok0
      go_wp2_with fail
      refine hnum.mono ?_
      rintro e w4 ⟨rfl, vm, hI4, f4, m4⟩
      clear hnum
      have HI0 : Hid (WI w (.slice va n0 vcap) x w.heap.size (w.heap.size + 1) (w1.heap.size + 1) w4.heap.size (.slice (some ⟨w1.heap.size, 0, none⟩) N N) vm m0 (.slice none 0 0) (.slice none 0 0) ⟨[], []⟩ (w4.alloc (Obj.cells #[.slice none 0 0, .slice none 0 0] 142))) := by
        have hX3 := HX2.out.1.mod m3 (fun x => x)
        have hR3 := HX2.out.2.1.mod m3 (fun x => x)
        have hI3 := HX2.out.2.2.2.no m3
        have key : ∀ {b : Nat} {cs : List Value} {T : Nat}, Blk w3 b cs T → T ≠ 248 → T ≠ 3 → ¬ Mt (w1.heap.size + 1) (.slice none 0 0) (.slice (some ⟨w1.heap.size, 0, none⟩) N N) b := fun {b cs T} hb h1 h3 hS => by
          rcases hS with rfl | hS | hS
          · exact hb.diff hI3.blk h1 rfl
          · exact hb.apart hI3.met h3 hS
          · exact hb.apart hI3.num h3 hS
        have hX4 := hX3.mod m4 (key hX3 (by decide) (by decide))
        have hR4 := hR3.mod m4 (key hR3 (by decide) (by decide))
        have hm4 : Mod No w w4 := (HX2.out.2.2.1.no m3).own m4 (by
          rintro k (rfl | hS | hS)
          · omega
          · cases hS
          · have : w1.heap.size = k := Option.some.inj hS
            omega)
        have h3 := m3.size
        refine ⟨hX4.alloc _, hR4.alloc _, hI4.no ((Mod.refl _ _).alloc _), heap_alloc_new w4 _, Row.nil _ _, Row.nil _ _, hm4.alloc _, fun g hg => ?_, fun g hg => ?_, (fun g hg => by cases hg), (fun g hg => by cases hg), by omega, hm4.size, by omega, by have := hR4.lt; omega⟩
        · rcases f4 g hg with h | h
          · cases h
          · exact Nat.le_trans (HX2.out.2.2.1.no m3).size h
        · have : w1.heap.size = g := Option.some.inj hg
          omega
      clear HX2 m3 hI4 f4 m4
      go_wp2_with fail
      generalize w4.alloc (Obj.cells #[.slice none 0 0, .slice none 0 0] 142) = W0 at HI0 ⊢
      generalize w4.heap.size = A at HI0 ⊢
      generalize w1.heap.size + 1 = M at HI0 ⊢
      generalize (Value.slice (some ⟨w1.heap.size, 0, none⟩) N N) = vn at HI0
      go_loopg [5] (H + 2) (fun g v5 wr => ∃ (i : Nat) (vm : Value) (m : M2.Meet) (vx vh : Value) (au : M2.Auto), v5 = .int .i64 (i : Int) ∧ WI w (.slice va n0 vcap) x w.heap.size (w.heap.size + 1) M A vn vm m vx vh au wr ∧ MOk m ∧ m.met.length ≤ 4 * i + 1 ∧ i + g = H + 2 ∧ WM g i m au = some a ∧ au.nx.length = i ∧ au.hit.length = i)
      case atStart => exact ⟨0, vm, m0, _, _, ⟨[], []⟩, rfl, HI0.out, HOK1.out.1, by have := HOK1.out.2; omega, by omega, HM.out, rfl, rfl⟩
      case round =>
        obtain ⟨i, vm, m, vx, vh, au, rfl, hI, hmo, hmet, hig, hwm, hnx, hhit⟩ := hrel
        match gk, hig, hwm with
        | 0, _, hwm => rw [HWZ.out] at hwm; cases hwm
        | g + 1, hig, hwm =>
          obtain ⟨ma, mcap, hvm, hma, -, -⟩ := hI.meet.met.any
          generalize hmn : m.met.length = mn at hvm hmet
          have c0 := hI.meet.blk.cell 0 rfl
          rw [hvm] at c0
          have HI : Hid (WI w (.slice va n0 vcap) x w.heap.size (w.heap.size + 1) M A vn vm m vx vh au wr) := hI
          have HMN : Hid (m.met.length = mn) := hmn
          by_cases hlt : i < mn
          · obtain ⟨st, hst⟩ : ∃ st, m.met[i]? = some st := ⟨m.met[i]'(by omega), List.getElem?_eq_getElem _⟩
            rw [HW.out g i st m au hst] at hwm
            cases h4 : M2.four (fun l m => M2.numberM m (SN st l)) m with
            | none => rw [h4] at hwm; cases hwm
            | some y =>
              obtain ⟨rr, m4⟩ := y
              rw [h4] at hwm
              obtain ⟨Ms, Nv, hM0, hM4, hrr, hsteps⟩ := four_spec h4
              have hmo0 : MOk (Ms 0) := by rw [hM0]; exact hmo
              have hmok := ms_ok hmo0 hsteps
              rw [hM0] at hmok
              have hstb : st < B32 := by have := hmo.mem st (List.mem_of_getElem? hst); unfold B32; omega
              have HWM : Hid (WM g (i + 1) m4 ⟨au.nx ++ [rr], au.hit ++ [decide (st = H)]⟩ = some a) := hwm
              have HMOK : Hid (∀ l, l ≤ 4 → MOk (Ms l) ∧ (Ms l).met.length ≤ mn + l) := fun l hl => by have := hmok l hl; rw [hmn] at this; exact this
              have HSTP : Hid (∀ l, l < 4 → M2.numberM (Ms l) (SN st l) = some (Nv l, Ms (l + 1))) := hsteps
              have HMS : Hid (Ms 0 = m ∧ Ms 4 = m4 ∧ rr = ⟨Nv 0, Nv 1, Nv 2, Nv 3⟩) := ⟨hM0, hM4, hrr⟩
              obtain ⟨gm, rfl⟩ : ∃ gm, ma = some ⟨gm, 0, none⟩ := by
                rcases hma with rfl | ⟨gm, rfl, _⟩
                · rcases hI.meet.met.2 with ⟨_, h2⟩ | ⟨g1, cap', cur, h, _⟩
                  · omega
                  · rw [hvm] at h; cases h
                · exact ⟨gm, rfl⟩
              have cst : wr.cell? ⟨gm, i, none⟩ = some (.int .i64 (st : Int)) := by
                have := hI.meet.met
                rw [hvm] at this
                exact InE.cell this hst
              have hilt : (i : Int) < (mn : Int) := by omega
              have hi0 : (0 : Int) ≤ (i : Int) := by omega
              have HSTB : Hid (st < B32) := hstb
              have hQ0 : w.heap.size ≤ wr.heap.size := hI.md.size
              have hxQ : vx.ownBlock ≠ some wr.heap.size := fun e => by have := hI.nx.lt e; omega
              have HI1 : Hid (∀ o, o = Obj.cells #[.int .i64 0, .int .i64 0, .int .i64 0, .int .i64 0] 106 → WI w (.slice va n0 vcap) x w.heap.size (w.heap.size + 1) M A vn vm (Ms 0) vx vh au (wr.alloc o) ∧ Blk (wr.alloc o) wr.heap.size (qc Nv 0) 106) := fun o ho => ⟨by rw [hM0]; exact hI.no ((Mod.refl _ _).alloc o), by subst ho; exact heap_alloc_new wr _⟩
              clear hwm h4 hM0 hM4 hrr hsteps hmo0 hmok hstb hst hI HI hmo hvm hma hmn
              go_wp2_with fail
              have HI1 := HI1.out _ rfl
              generalize wr.alloc (Obj.cells #[.int .i64 0, .int .i64 0, .int .i64 0, .int .i64 0] 106) = W2 at HI1 ⊢
              generalize wr.heap.size = Q at HI1 hQ0 hxQ ⊢
              have HI1 : Hid (WI w (.slice va n0 vcap) x w.heap.size (w.heap.size + 1) M A vn vm (Ms 0) vx vh au W2 ∧ Blk W2 Q (qc Nv 0) 106) := HI1
              clear c0 cst
              go_loopg [29] 4 (fun h v29 wx => ∃ (l : Nat) (vm' : Value), v29 = .int .i64 (l : Int) ∧ l ≤ 4 ∧ h = 4 - l ∧ WI w (.slice va n0 vcap) x w.heap.size (w.heap.size + 1) M A vn vm' (Ms l) vx vh au wx ∧ Blk wx Q (qc Nv l) 106)
              case atStart => exact ⟨0, vm, rfl, by omega, rfl, HI1.out.1, HI1.out.2⟩
              case round =>
                obtain ⟨l, vm', rfl, hl4, hh4, hI, hQ⟩ := hrel
                have HI : Hid (WI w (.slice va n0 vcap) x w.heap.size (w.heap.size + 1) M A vn vm' (Ms l) vx vh au wr) := hI
                have HQ : Hid (Blk wr Q (qc Nv l) 106) := hQ
                by_cases hl : l < 4
                · have hli : (l : Int) < 4 := by omega
                  have x0 := hI.net.cell 0 rfl
                  have x1 := hI.net.cell 1 rfl
                  have x2 := hI.net.cell 2 rfl
                  have x3 := hI.net.cell 3 rfl
                  have hsp := HSP.out wr st l hI.md HSTB.out hl
                  have hst2 := HSTP.out l hl
                  have hbd := HMOK.out l (by omega)
                  generalize SN st l = sn at hsp hst2
                  have HNUM : Hid (∀ wx, Mod No wr wx → Calls Tryz.prog 122 #[.pointer (some ⟨M, 0, none⟩), .int .i64 (sn : Int)] wx fun e w' => e = .returned (.int .i64 (Nv l : Int)) ∧ ∃ vm2, MeetI w' M vm2 vn (Ms (l + 1)) ∧ Fresh wx vm' vm2 ∧ Mod (Mt M vm' vn) wx w') := fun wx hm =>
                    number_any' wx M vm' vn (Ms l) (Ms (l + 1)) sn (Nv l) (HI.out.meet.no hm) hst2 (by omega) (by have := hbd.1.len; omega) (fun u hu => by have := hbd.1.val u hu; omega)
                  clear hI hQ hst2 hbd
                  go_wp2_with fail
                  refine hsp.mono ?_
                  rintro e w5 ⟨rfl, m5⟩
                  clear hsp x0 x1 x2 x3
                  have HI5 := HI.out.no m5
                  have hQ5 := HQ.out.mod m5 (fun x => x)
                  go_wp2_with fail
                  refine (HNUM.out _ m5).mono ?_
                  rintro e w6 ⟨rfl, vm2, hI6, f6, m6⟩
                  clear HNUM m5
                  have hW6 := HI5.num hI6 f6 m6
                  have hQ6 : Blk w6 Q (qc Nv l) 106 := hQ5.mod m6 (by
                    rintro (rfl | hS | hS)
                    · exact hQ5.diff HI5.meet.blk (by decide) rfl
                    · exact hQ5.apart HI5.meet.met (by decide) hS
                    · exact hQ5.apart HI5.meet.num (by decide) hS)
                  have hqv : ∃ v, (qc Nv l)[l]? = some v := ⟨(qc Nv l)[l]'(by simp [qc]; omega), List.getElem?_eq_getElem _⟩
                  obtain ⟨qv, hqv⟩ := hqv
                  have q0 := hQ6.cell l hqv
                  have fq := hQ6.free l
                  have HQ6 : Hid (Blk w6 Q (qc Nv l) 106) := hQ6
                  have HW6 : Hid (WI w (.slice va n0 vcap) x w.heap.size (w.heap.size + 1) M A vn vm2 (Ms (l + 1)) vx vh au w6) := hW6
                  clear HI5 hQ5 hI6 f6 m6 hW6 hQ6 hqv HI HQ
                  go_wp2
                  go_roundg (4 - (l + 1))
                  case measure => omega
                  case rel => exact ⟨l + 1, vm2, by go_num, by omega, rfl, HW6.out.put HQ6.out hQ0 hxQ l _, by rw [← qc_set Nv l hl]; exact HQ6.out.set l _⟩
                · obtain rfl : l = 4 := by omega
                  obtain ⟨i0, hinf, hz0, hz1, hz2⟩ := info_parts Tryz.info106
                  obtain ⟨xa, xcap, hvx, -, -, -⟩ := hI.nx.any
                  rw [hnx] at hvx
                  have d0 := hI.aut.cell 0 rfl
                  have e0 := hI.aut.free 0
                  rw [hvx] at d0
                  change Blk wr Q [.int .i64 (Nv 0 : Int), .int .i64 (Nv 1 : Int), .int .i64 (Nv 2 : Int), .int .i64 (Nv 3 : Int)] 106 at hQ
                  have q0 := hQ.cell 0 rfl
                  have q1 := hQ.cell 1 rfl
                  have q2 := hQ.cell 2 rfl
                  have q3 := hQ.cell 3 rfl
                  have hown : wr.ownsRow 0 106 4 (.slice xa i xcap) i (au.nx.flatMap R4E.f) := by have := hI.nx; unfold Row at this; rw [hvx, hnx] at this; exact this
                  have hAlt := hI.aut.lt
                  have hi2 : i ≤ 300000 := by omega
                  have hAx : some A ≠ vx.ownBlock := fun e => hI.aut.apart hI.nx (by decide) e.symm
                  rw [hvx] at hAx
                  have hrow1 := HMS.out.2.2
                  have HVX : Hid (vx = .slice xa i xcap) := hvx
                  clear hI hQ hvx
                  go_wp2_with (at_builtin; refine wpList_append_lies _ rfl _ _ 84 rfl 0 106 i0 _ 4 32 Tryz.underlying84 hinf hz0 hz1 hz2 rfl (by omega) (.slice xa i xcap) i (au.nx.flatMap R4E.f) rfl (hown.alloc _) ⟨wr.heap.size, 0, none⟩ 1 1 [.int .i64 (Nv 0 : Int), .int .i64 (Nv 1 : Int), .int .i64 (Nv 2 : Int), .int .i64 (Nv 3 : Int)] rfl rfl ?c1 ?c2 (by omega) (by unfold maxLen; omega) (by omega) (by simp) (wr.heap.size + 1) (by simp) ?_)
                  case c1 => exact World.news_of_block (cs := #[.int .i64 (Nv 0 : Int), .int .i64 (Nv 1 : Int), .int .i64 (Nv 2 : Int), .int .i64 (Nv 3 : Int)]) (t := 106) (fr := (0, 0)) (heap_alloc_new wr _)
                  case c2 => intro u hu; simp at hu; rcases hu with rfl | rfl | rfl | rfl <;> rfl
                  intro gg cap2 w7 hown7 hgrow hat hltt
                  have HIA := HI.out.no ((Mod.refl _ _).alloc (Obj.cells #[.int .i64 (Nv 0 : Int), .int .i64 (Nv 1 : Int), .int .i64 (Nv 2 : Int), .int .i64 (Nv 3 : Int)] 106))
                  have hf7 : Fresh (wr.alloc (Obj.cells #[.int .i64 (Nv 0 : Int), .int .i64 (Nv 1 : Int), .int .i64 (Nv 2 : Int), .int .i64 (Nv 3 : Int)] 106)) vx (.slice (some ⟨gg, 0, none⟩) (i + 1) cap2) := by
                    intro g1 hg1
                    cases hg1
                    rcases hat with h | h
                    · exact Or.inl (by rw [HVX.out]; exact h)
                    · exact Or.inr (by simp; show wr.heap.size + 1 ≤ gg; omega)
                  have hr7 : Row R4E w7 (.slice (some ⟨gg, 0, none⟩) (i + 1) cap2) (au.nx ++ [rr]) := by
                    refine Row.snoc ?_
                    rw [hnx, hrow1]
                    exact hown7
                  have HI8 := HIA.moreX (by rw [HVX.out]; exact hgrow) hr7 hf7
                  have hA7 : Blk w7 A [vx, vh] 142 := HIA.aut.grown hgrow hAx
                  have a0 := hA7.cell 0 rfl
                  rw [HVX.out] at a0
                  have b0 := hA7.free 0
                  obtain ⟨w8, hw8⟩ : ∃ w8, w7.setCell ⟨A, 0, none⟩ (.slice (some ⟨gg, 0, none⟩) (i + 1) cap2) = w8 := ⟨_, rfl⟩
                  rw [hw8] at HI8
                  obtain ⟨v8, hv8⟩ : ∃ v8, v8 = Value.slice (some ⟨gg, 0, none⟩) (i + 1) cap2 := ⟨_, rfl⟩
                  rw [← hv8] at HI8
                  have HI8 : Hid (WI w (.slice va n0 vcap) x w.heap.size (w.heap.size + 1) M A vn vm' (Ms 4) v8 vh ⟨au.nx ++ [rr], au.hit⟩ w8) := HI8
                  clear HIA hf7 hr7 hA7 hown7 hgrow hat hltt hown d0 e0 q0 q1 q2 q3 hinf hz0 hz1 hz2 hAx HI HQ hv8
                  go_wp2
                  clear hw8 a0 b0
                  obtain ⟨j0, hinf, hz0, hz1, hz2⟩ := info_parts Tryz.info4
                  obtain ⟨ya, ycap, hvh, -, -, -⟩ := HI8.out.hit.any
                  have hvh : vh = .slice ya i ycap := by rw [hvh]; show Value.slice ya au.hit.length ycap = _; rw [hhit]
                  have HVH : Hid (vh = .slice ya i ycap) := hvh
                  have x0 := HI8.out.net.cell 0 rfl
                  have x1 := HI8.out.net.cell 1 rfl
                  have x2 := HI8.out.net.cell 2 rfl
                  have x3 := HI8.out.net.cell 3 rfl
                  have d1 := HI8.out.aut.cell 1 rfl
                  rw [hvh] at d1
                  have hown8 : w8.ownsRow 0 4 1 (.slice ya i ycap) i (au.hit.flatMap BoE.f) := by have := HI8.out.hit; unfold Row at this; rw [hvh] at this; rw [show (M2.Auto.mk (au.nx ++ [rr]) au.hit).hit = au.hit from rfl, hhit] at this; exact this
                  have hAh : some A ≠ vh.ownBlock := fun e => HI8.out.aut.apart HI8.out.hit (by decide) e.symm
                  rw [hvh] at hAh
                  have HDR : Hid (Mod No w8 w8.drew) := (Mod.refl _ _).drew
                  have hih := HIS.out w8.drew st (HI8.out.md.drew)
                  generalize decide (st = H) = hb at hih HWM
                  clear hvh
                  go_region_law (first | (go_simp; go_at_call 125; refine hih.mono ?_; rintro e w9 ⟨rfl, m9⟩; have hI9 := (HI8.out.no HDR.out).no m9; have k1 := hI9.aut.cell 1 rfl; rw [HVH.out] at k1; have F1 := hI9.aut.freeA 1; have K1 := hI9.aut.cellA 1 rfl; rw [HVH.out] at K1; have hown9 : w9.ownsRow 0 4 1 (.slice ya i ycap) i (au.hit.flatMap BoE.f) := (by have := hI9.hit; unfold Row at this; rw [HVH.out] at this; rw [show (M2.Auto.mk (au.nx ++ [rr]) au.hit).hit = au.hit from rfl, hhit] at this; exact this); have hA9 := hI9.aut.lt) | (refine step_append_lies _ (by rfl) _ _ _ (by rfl) 0 4 j0 _ 1 1 Tryz.underlying122 hinf hz0 hz1 hz2 rfl (by omega) (.slice ya i ycap) i (au.hit.flatMap BoE.f) (by rfl) (hown9.alloc _) ⟨w9.heap.size, 0, none⟩ 1 1 [.bool hb] (by rfl) (by rfl) (World.news_of_block (cs := #[.bool hb]) (t := 4) (fr := (0, 0)) (heap_alloc_new w9 _)) (by intro u hu; simp at hu; rw [hu]; rfl) (by omega) (by unfold maxLen; omega) (by omega) (by simp) (w9.heap.size + 1) (by simp) ?_; intro g2 cap3 w10 hown10 hgrow10 hat10 hltt10; have s0 := (hgrow10.cell_far ⟨A, 1, none⟩ (by simp; omega) hAh).trans (K1 _); have s1 := (hgrow10.frozen_far ⟨A, 1, none⟩ (by simp; omega) hAh).trans (F1 _)))
                  all_goals
                    have hf10 : Fresh (w9.alloc (Obj.cells #[.bool hb] 4)) vh (.slice (some ⟨g2, 0, none⟩) (i + 1) cap3) := by
                      intro g1 hg1
                      cases hg1
                      rcases hat10 with h | h
                      · exact Or.inl (by rw [HVH.out]; exact h)
                      · exact Or.inr (by simp; show w9.heap.size + 1 ≤ g2; omega)
                    have hr10 : Row BoE w10 (.slice (some ⟨g2, 0, none⟩) (i + 1) cap3) (au.hit ++ [hb]) := by
                      refine Row.snoc ?_
                      rw [hhit]
                      exact hown10
                    have HI11 : Hid (WI w (.slice va n0 vcap) x w.heap.size (w.heap.size + 1) M A vn vm' (Ms 4) v8 (.slice (some ⟨g2, 0, none⟩) (i + 1) cap3) ⟨au.nx ++ [rr], au.hit ++ [hb]⟩ (w10.setCell ⟨A, 1, none⟩ (.slice (some ⟨g2, 0, none⟩) (i + 1) cap3))) := (hI9.no ((Mod.refl _ _).alloc (Obj.cells #[.bool hb] 4))).moreH (by rw [HVH.out]; exact hgrow10) hr10 hf10
                    clear hf10 hr10 hI9 m9 k1 K1 F1 hown9 hown10 hgrow10 hat10 hltt10 s0 s1 hown8 hih x0 x1 x2 x3 d1 hinf hz0 hz1 hz2
                    go_wp2
                    go_roundg g
                    case measure => omega
                    case rel => exact ⟨i + 1, vm', Ms 4, v8, _, ⟨au.nx ++ [rr], au.hit ++ [hb]⟩, by go_num, HI11.out, (HMOK.out 4 (by omega)).1, by have := (HMOK.out 4 (by omega)).2; omega, by omega, by rw [HMS.out.2.1]; exact HWM.out, by simp; omega, by simp; omega⟩
          · rw [HW0.out g i m au (List.getElem?_eq_none (by omega))] at hwm
            obtain rfl := Option.some.inj hwm
            have hi : ¬ (i : Int) < (mn : Int) := by omega
            obtain ⟨xa, xcap, hvx, -, -, -⟩ := hI.nx.any
            obtain ⟨ha', hcap', hvh, -, -, -⟩ := hI.hit.any
            generalize hln : au.nx.length = ln at hvx
            generalize hlh : au.hit.length = lh at hvh
            have d0 := hI.aut.cell 0 rfl
            have d1 := hI.aut.cell 1 rfl
            have r0 := hI.res.cell 0 rfl
            have r1 := hI.res.cell 1 rfl
            have f0 := hI.res.free 0
            have f1 := hI.res.free 1
            have nar := hI.nAR
            rw [hvx] at d0
            rw [hvh] at d1
            have HVX : Hid (vx = .slice xa ln xcap) := hvx
            have HVH : Hid (vh = .slice ha' lh hcap') := hvh
            have HLN : Hid (au.nx.length = au.hit.length ∧ au.nx.length ≤ 300000) := ⟨by omega, by omega⟩
            clear hI hwm hmo hvx hvh hln hlh hnx hhit hmn hvm
            go_wp2
            refine bodyPost_ret (v := .agg #[.slice xa ln xcap, .slice ha' lh hcap']) (by simp [results, Tryz.results86, go_sem, r0, r1]) rfl ⟨?_, vx, vh, by rw [HVX.out, HVH.out], ?_, ?_, HI.out.ox, HI.out.oh, HLN.out.1, HLN.out.2⟩
            · exact (HI.out.md.setCell (a := ⟨w.heap.size + 1, 0, none⟩) (fun h => absurd h (by simp)) _).setCell (a := ⟨w.heap.size + 1, 1, none⟩) (fun h => absurd h (by simp)) _
            · have h1 := HI.out.res.apart HI.out.nx (by decide)
              exact (HI.out.nx.other (a := ⟨w.heap.size + 1, 0, none⟩) h1 _).other (a := ⟨w.heap.size + 1, 1, none⟩) h1 _
            · have h1 := HI.out.res.apart HI.out.hit (by decide)
              exact (HI.out.hit.other (a := ⟨w.heap.size + 1, 0, none⟩) h1 _).other (a := ⟨w.heap.size + 1, 1, none⟩) h1 _
end Go.Proofs.YtmbapmbpnnaanabGreatDoor
