import Derived.Test.YtmbapmbpnnaanabGreatDoorKD
import Derived.Deep.RegionLaw
namespace Go.Proofs.YtmbapmbpnnaanabGreatDoor
open Go.RowKit
attribute [local go_sem ↓] Go.wp_at_zero Go.wp_at_succ

theorem Row.ne_new {α : Type} {E : Enc α} {w : World} {v : Value} {xs : List α} (h : Row E w v xs) (k : Nat) (hk : w.heap.size ≤ k) : ¬ v.ownBlock = some k := fun e => by have := h.lt e; omega
theorem new3_0 (w : World) (A B C : Obj) : (((w.alloc A).alloc B).alloc C).heap[w.heap.size]? = some A := by
  rw [Below.heap_alloc _ _ _ (by simp; omega), Below.heap_alloc _ _ _ (by simp)]; exact heap_alloc_new w A
theorem new3_1 (w : World) (A B C : Obj) : (((w.alloc A).alloc B).alloc C).heap[w.heap.size + 1]? = some B := by
  rw [Below.heap_alloc _ _ _ (by simp)]; simpa using heap_alloc_new (w.alloc A) B
theorem new3_2 (w : World) (A B C : Obj) : (((w.alloc A).alloc B).alloc C).heap[w.heap.size + 1 + 1]? = some C := by
  simpa using heap_alloc_new ((w.alloc A).alloc B) C
theorem new2_0 (w : World) (A B : Obj) : ((w.alloc A).alloc B).heap[w.heap.size]? = some A := by
  rw [Below.heap_alloc _ _ _ (by simp)]; exact heap_alloc_new w A
theorem new2_1 (w : World) (A B : Obj) : ((w.alloc A).alloc B).heap[w.heap.size + 1]? = some B := by simpa using heap_alloc_new (w.alloc A) B

theorem either_any (x y : Mir.Piece) (w : World) (hx : POk x) (hy : POk y) :
    Calls Tryz.prog 143 #[pieceV x, pieceV y] w fun e w' => e = .returned (pieceV (Mir.eitherM x y)) ∧ Mod No w w' := by
  obtain ⟨xe, xf, xl⟩ := x
  obtain ⟨ye, yf, yl⟩ := y
  have h1 := u32_or_nat xf yf hx.1 hy.1
  have h2 := u32_or_nat xl yl hx.2 hy.2
  obtain ⟨a, ha⟩ : ∃ a, a = xf ||| yf := ⟨_, rfl⟩
  obtain ⟨c, hc⟩ : ∃ c, c = xl ||| yl := ⟨_, rfl⟩
  have HE : Hid (pieceV (Mir.eitherM ⟨xe, xf, xl⟩ ⟨ye, yf, yl⟩) = .agg #[.bool (xe || ye), .int .u32 (a : Int), .int .u32 (c : Int)]) := by
    show pieceV _ = _
    rw [ha, hc]; rfl
  rw [← ha] at h1
  rw [← hc] at h2
  clear ha hc
  unfold pieceV at *
  cases xe with
  | true =>
    go_enter Tryz.func143, Tryz.ntmps143
    go_wp2
    refine bodyPost_ret (v := .agg #[.bool true, .int .u32 (a : Int), .int .u32 (c : Int)]) (by simp [results, Tryz.results143, go_sem]) rfl ⟨by rw [HE.out]; rfl, ?_⟩
    exact (((Mod.refl _ _).alloc _).alloc _).alloc _
  | false =>
    go_enter Tryz.func143, Tryz.ntmps143
    go_wp2
    refine bodyPost_ret (v := .agg #[.bool ye, .int .u32 (a : Int), .int .u32 (c : Int)]) (by simp [results, Tryz.results143, go_sem]) rfl ⟨by rw [HE.out]; rfl, ?_⟩
    exact (((Mod.refl _ _).alloc _).alloc _).alloc _

theorem fin3 {α : Type} {E : Enc α} {S : Nat → Prop} {w w1 : World} {vp : Value} {L : List α} (o : Obj) (R : Nat) (A0 A1 A2 : Value) (hm : Mod S w w1) (hr : Row E w1 vp L) (hR : w.heap.size ≤ R) (hne : vp.ownBlock ≠ some R) :
    Row E ((((w1.alloc o).setCell ⟨R, 0, none⟩ A0).setCell ⟨R, 1, none⟩ A1).setCell ⟨R, 2, none⟩ A2) vp L ∧ Mod S w ((((w1.alloc o).setCell ⟨R, 0, none⟩ A0).setCell ⟨R, 1, none⟩ A1).setCell ⟨R, 2, none⟩ A2) :=
  ⟨(((hr.alloc o).other (a := ⟨R, 0, none⟩) hne _).other (a := ⟨R, 1, none⟩) hne _).other (a := ⟨R, 2, none⟩) hne _,
   (((hm.alloc o).setCell (a := ⟨R, 0, none⟩) (fun h => absurd h (by simp; omega)) _).setCell (a := ⟨R, 1, none⟩) (fun h => absurd h (by simp; omega)) _).setCell (a := ⟨R, 2, none⟩) (fun h => absurd h (by simp; omega)) _⟩

set_option maxHeartbeats 1000000 in
theorem join_any (b o : Nat) (cs : List Value) (T : Nat) (vp : Value) (ps : List Mir.Place) (x y : Mir.Piece) (w : World) (hb : Blk w b cs T) (hv : cs[o]? = some vp) (hrow : Row PlE w vp ps) (hne : vp.ownBlock ≠ some b) (hps : PsOk ps) (hx : POk x) (hy : POk y) :
    Calls Tryz.prog 85 #[.pointer (some ⟨b, o, none⟩), pieceV x, pieceV y] w fun e w' => e = .returned (pieceV (Mir.joinM ps x y).1) ∧ Row PlE w' vp (Mir.joinM ps x y).2 ∧ Mod (fun k => vp.ownBlock = some k) w w' := by
  obtain ⟨xe, xf, xl⟩ := x
  obtain ⟨ye, yf, yl⟩ := y
  have h1 := u32_or_nat xf yf hx.1 hy.1
  have h2 := u32_or_nat yl xl hy.2 hx.2
  have HJ : Hid (∀ A B C, Calls Tryz.prog 120 #[.pointer (some ⟨b, o, none⟩), .int .u32 (xl : Int), .int .u32 (yf : Int)] (((w.alloc A).alloc B).alloc C) fun e w' => e = .returned (.tuple #[]) ∧ Row PlE w' vp (Mir.leadM ps xl yf 0) ∧ Mod (fun k => vp.ownBlock = some k) (((w.alloc A).alloc B).alloc C) w') :=
    fun A B C => lead_any b o cs T vp ps xl yf _ (((hb.alloc _).alloc _).alloc _) hv (((hrow.alloc _).alloc _).alloc _) hne hps hx.2 hy.1
  have HN : Hid (∀ k, w.heap.size ≤ k → ¬ vp.ownBlock = some k) := hrow.ne_new
  obtain ⟨a, ha⟩ : ∃ a, a = xf ||| yf := ⟨_, rfl⟩
  obtain ⟨c, hc⟩ : ∃ c, c = yl ||| xl := ⟨_, rfl⟩
  have HE : Hid ((Mir.joinM ps ⟨xe, xf, xl⟩ ⟨ye, yf, yl⟩).1 = ⟨xe && ye, if xe then a else xf, if ye then c else yl⟩) := by
    show (Mir.joinM ps ⟨xe, xf, xl⟩ ⟨ye, yf, yl⟩).1 = _
    rw [ha, hc]; rfl
  have HE2 : Hid ((Mir.joinM ps ⟨xe, xf, xl⟩ ⟨ye, yf, yl⟩).2 = Mir.leadM ps xl yf 0) := rfl
  rw [← ha] at h1
  rw [← hc] at h2
  clear ha hc hb hv hrow hne hps hx hy
  rw [HE.out, HE2.out]
  clear HE HE2
  generalize hL : Mir.leadM ps xl yf 0 = L at HJ ⊢
  clear hL
  unfold pieceV
  go_enter Tryz.func85, Tryz.ntmps85
  go_wp2_with fail
  refine (HJ.out _ _ _).mono ?_
  rintro e w1 ⟨rfl, hr1, hm1⟩
  clear HJ
  have b0 : Blk w1 w.heap.size [.bool xe, .int .u32 (xf : Int), .int .u32 (xl : Int)] 134 := Blk.mod (new3_0 _ _ _ _) hm1 (HN.out _ (by omega))
  have b1 : Blk w1 (w.heap.size + 1) [.bool ye, .int .u32 (yf : Int), .int .u32 (yl : Int)] 134 := Blk.mod (new3_1 _ _ _ _) hm1 (HN.out _ (by omega))
  have b2 : Blk w1 (w.heap.size + 1 + 1) [.bool false, .int .u32 0, .int .u32 0] 134 := Blk.mod (new3_2 _ _ _ _) hm1 (HN.out _ (by omega))
  have hm : Mod (fun k => vp.ownBlock = some k) w w1 := (((Mod.refl _ _).alloc _).alloc _).alloc _ |>.trans hm1
  have HR1 : Hid _ := hr1
  have HM : Hid _ := hm
  have HB2 : Hid _ := b2
  have hs1 := hm1.size
  simp at hs1
  have x0 := b0.cell 0 rfl
  have x1 := b0.cell 1 rfl
  have y0 := b1.cell 0 rfl
  have y2 := b1.cell 2 rfl
  have X0 := b0.cellA 0 rfl
  have X2 := b0.cellA 2 rfl
  have Y0 := b1.cellA 0 rfl
  have Y1 := b1.cellA 1 rfl
  have Z0 := b2.cellA 0 rfl
  have Z1 := b2.cellA 1 rfl
  have Z2 := b2.cellA 2 rfl
  have G0 := b2.freeA 0
  have G1 := b2.freeA 1
  have G2 := b2.freeA 2
  have n0 : ¬ w.heap.size = w1.heap.size := by omega
  have n1 : ¬ w.heap.size + 1 = w1.heap.size := by omega
  have n2 : ¬ w.heap.size + 1 + 1 = w1.heap.size := by omega
  clear hm1 hr1 hm b0 b1 b2
  have HF : Hid (∀ o A0 A1 A2, Row PlE ((((w1.alloc o).setCell ⟨w.heap.size + 1 + 1, 0, none⟩ A0).setCell ⟨w.heap.size + 1 + 1, 1, none⟩ A1).setCell ⟨w.heap.size + 1 + 1, 2, none⟩ A2) vp L ∧ Mod (fun k => vp.ownBlock = some k) w ((((w1.alloc o).setCell ⟨w.heap.size + 1 + 1, 0, none⟩ A0).setCell ⟨w.heap.size + 1 + 1, 1, none⟩ A1).setCell ⟨w.heap.size + 1 + 1, 2, none⟩ A2)) :=
    fun o A0 A1 A2 => fin3 o _ A0 A1 A2 HM.out HR1.out (by omega) (HN.out _ (by omega))
  cases xe with
  | true =>
    cases ye with
    | true =>
      go_wp2
      exact bodyPost_ret (v := .agg #[.bool true, .int .u32 (a : Int), .int .u32 (c : Int)]) (by simp [results, Tryz.results85, go_sem, Z0, Z1, Z2]) rfl ⟨rfl, HF.out _ _ _ _⟩
    | false =>
      go_wp2
      exact bodyPost_ret (v := .agg #[.bool false, .int .u32 (a : Int), .int .u32 (yl : Int)]) (by simp [results, Tryz.results85, go_sem, Z0, Z1, Z2]) rfl ⟨rfl, HF.out _ _ _ _⟩
  | false =>
    cases ye with
    | true =>
      go_wp2
      exact bodyPost_ret (v := .agg #[.bool false, .int .u32 (xf : Int), .int .u32 (c : Int)]) (by simp [results, Tryz.results85, go_sem, Z0, Z1, Z2]) rfl ⟨rfl, HF.out _ _ _ _⟩
    | false =>
      go_wp2
      exact bodyPost_ret (v := .agg #[.bool false, .int .u32 (xf : Int), .int .u32 (yl : Int)]) (by simp [results, Tryz.results85, go_sem, Z0, Z1, Z2]) rfl ⟨rfl, HF.out _ _ _ _⟩
end Go.Proofs.YtmbapmbpnnaanabGreatDoor
namespace Go.Proofs.YtmbapmbpnnaanabGreatDoor
open Go.RowKit
attribute [local go_sem ↓] Go.wp_at_zero Go.wp_at_succ

set_option maxHeartbeats 1000000 in
theorem repeat_any (b o : Nat) (cs : List Value) (T : Nat) (vp : Value) (ps : List Mir.Place) (x : Mir.Piece) (w : World) (hb : Blk w b cs T) (hv : cs[o]? = some vp) (hrow : Row PlE w vp ps) (hne : vp.ownBlock ≠ some b) (hps : PsOk ps) (hx : POk x) :
    Calls Tryz.prog 158 #[.pointer (some ⟨b, o, none⟩), pieceV x] w fun e w' => e = .returned (pieceV (Mir.repM ps x).1) ∧ Row PlE w' vp (Mir.repM ps x).2 ∧ Mod (fun k => vp.ownBlock = some k) w w' := by
  obtain ⟨xe, xf, xl⟩ := x
  have HJ : Hid (∀ A B, Calls Tryz.prog 120 #[.pointer (some ⟨b, o, none⟩), .int .u32 (xl : Int), .int .u32 (xf : Int)] ((w.alloc A).alloc B) fun e w' => e = .returned (.tuple #[]) ∧ Row PlE w' vp (Mir.leadM ps xl xf 0) ∧ Mod (fun k => vp.ownBlock = some k) ((w.alloc A).alloc B) w') :=
    fun A B => lead_any b o cs T vp ps xl xf _ ((hb.alloc _).alloc _) hv ((hrow.alloc _).alloc _) hne hps hx.2 hx.1
  have HN : Hid (∀ k, w.heap.size ≤ k → ¬ vp.ownBlock = some k) := hrow.ne_new
  have HE : Hid ((Mir.repM ps ⟨xe, xf, xl⟩).1 = ⟨true, xf, xl⟩) := rfl
  have HE2 : Hid ((Mir.repM ps ⟨xe, xf, xl⟩).2 = Mir.leadM ps xl xf 0) := rfl
  clear hb hv hrow hne hps hx
  rw [HE.out, HE2.out]
  clear HE HE2
  generalize hL : Mir.leadM ps xl xf 0 = L at HJ ⊢
  clear hL
  unfold pieceV
  go_enter Tryz.func158, Tryz.ntmps158
  go_wp2_with fail
  refine (HJ.out _ _).mono ?_
  rintro e w1 ⟨rfl, hr1, hm1⟩
  clear HJ
  have b0 : Blk w1 w.heap.size [.bool xe, .int .u32 (xf : Int), .int .u32 (xl : Int)] 134 := Blk.mod (new2_0 _ _ _) hm1 (HN.out _ (by omega))
  have b1 : Blk w1 (w.heap.size + 1) [.bool false, .int .u32 0, .int .u32 0] 134 := Blk.mod (new2_1 _ _ _) hm1 (HN.out _ (by omega))
  have hm : Mod (fun k => vp.ownBlock = some k) w w1 := ((Mod.refl _ _).alloc _).alloc _ |>.trans hm1
  have HR1 : Hid (Row PlE w1 vp L) := hr1
  have HM : Hid (Mod (fun k => vp.ownBlock = some k) w w1) := hm
  have x0 := b0.cell 0 rfl
  have x1 := b0.cell 1 rfl
  have x2 := b0.cell 2 rfl
  have z0 := b1.cell 0 rfl
  have z1 := b1.cell 1 rfl
  have z2 := b1.cell 2 rfl
  have f0 := b0.free 0
  have g0 := b1.free 0
  have g1 := b1.free 1
  have g2 := b1.free 2
  clear hm1 hr1 hm b0 b1
  go_wp2
  refine bodyPost_ret (v := .agg #[.bool true, .int .u32 (xf : Int), .int .u32 (xl : Int)]) (by simp [results, Tryz.results158, go_sem, z0, z1, z2]) rfl ⟨rfl, ?_, ?_⟩
  · exact (((HR1.out.other (a := ⟨w.heap.size, 0, none⟩) (HN.out _ (by simp)) _).other (a := ⟨w.heap.size + 1, 0, none⟩) (HN.out _ (by simp)) _).other (a := ⟨w.heap.size + 1, 1, none⟩) (HN.out _ (by simp)) _).other (a := ⟨w.heap.size + 1, 2, none⟩) (HN.out _ (by simp)) _
  · exact (((HM.out.setCell (a := ⟨w.heap.size, 0, none⟩) (fun h => absurd h (by simp)) _).setCell (a := ⟨w.heap.size + 1, 0, none⟩) (fun h => absurd h (by simp)) _).setCell (a := ⟨w.heap.size + 1, 1, none⟩) (fun h => absurd h (by simp)) _).setCell (a := ⟨w.heap.size + 1, 2, none⟩) (fun h => absurd h (by simp)) _

theorem Tryz.info272 : (Tryz.prog.info? 272).map (fun i => (i.zero, i.size, i.bytes)) = some (some (.agg #[.bool false, .bool false, .bool false, .bool false, .int .u32 0]), 5, 8) := by kernel_rfl

/-- The places behind one more: in which blocks they may lie. -/
def Fresh (w : World) (v v' : Value) : Prop := ∀ g, v'.ownBlock = some g → v.ownBlock = some g ∨ w.heap.size ≤ g

def b4V (t : List Bool) : Value := .agg #[.bool (t.getD 0 false), .bool (t.getD 1 false), .bool (t.getD 2 false), .bool (t.getD 3 false)]

set_option maxHeartbeats 2000000 in
set_option maxRecDepth 100000 in
theorem add_any (b o : Nat) (cs : List Value) (T : Nat) (vp : Value) (ps : List Mir.Place) (t : List Bool) (w : World) (hb : Blk w b cs T) (hv : cs[o]? = some vp) (hrow : Row PlE w vp ps) (hne : vp.ownBlock ≠ some b) (hlen : ps.length < 32) :
    Calls Tryz.prog 116 #[.pointer (some ⟨b, o, none⟩), b4V t] w fun e w' => e = .returned (pieceV ⟨false, Mir.bit ps.length, Mir.bit ps.length⟩) ∧ ∃ vp', Row PlE w' vp' (ps ++ [⟨t, 0⟩]) ∧ Blk w' b (cs.set o vp') T ∧ vp'.ownBlock ≠ some b ∧ Fresh w vp vp' ∧ Mod (Pt b vp) w w' := by
  obtain ⟨i0, hinf, hz0, hz1, hz2⟩ := info_parts Tryz.info272
  obtain ⟨a, cap, rfl, ha, hcap, -⟩ := hrow.any
  obtain ⟨n, hn⟩ : ∃ n, n = ps.length := ⟨_, rfl⟩
  rw [← hn] at hrow hcap hne hv hlen ⊢
  have hone := fun w => single_any n hlen w
  have c0 := hb.cell o hv
  have C0 := fun o1 o2 => (hb.alloc o1).cellA o hv o2
  have f0 := hb.free o
  have HB : Hid (Blk w b cs T) := hb
  have HV : Hid (cs[o]? = some (.slice a n cap)) := hv
  have HROW : Hid (Row PlE w (.slice a n cap) ps) := hrow
  have hlt := hb.lt
  have HN : Hid (n = ps.length) := hn
  have HNE : Hid _ := hne
  have hsw : ∀ x : Option Addr, (Value.slice x n cap).ownBlock = x.map (·.block) := fun x => by cases x <;> rfl
  have hbne : some b ≠ (Value.slice a n cap).ownBlock := fun e => HNE.out e.symm
  unfold b4V
  generalize ht0 : t.getD 0 false = t0
  generalize ht1 : t.getD 1 false = t1
  generalize ht2 : t.getD 2 false = t2
  generalize ht3 : t.getD 3 false = t3
  have HT : Hid (PlE.f ⟨t, 0⟩ = [.bool t0, .bool t1, .bool t2, .bool t3, .int .u32 0]) := by
    show PlE.f ⟨t, 0⟩ = _
    rw [← ht0, ← ht1, ← ht2, ← ht3]; rfl
  clear hb hv hrow hn hne ht0 ht1 ht2 ht3
  go_enter Tryz.func116, Tryz.ntmps116
  go_wp2_with fail
  refine (hone _).mono ?_
  rintro e w1 ⟨rfl, rfl⟩
  clear hone
  generalize hX : Mir.bit n = X
  go_wp2_with fail
  generalize hwa : (w.alloc (Obj.cells #[.bool t0, .bool t1, .bool t2, .bool t3] 242)).alloc (Obj.cells #[.bool false, .int .u32 0, .int .u32 0] 134) = wa
  have ba : Blk wa b cs T := by rw [← hwa]; exact (HB.out.alloc _).alloc _
  have bt : Blk wa w.heap.size [.bool t0, .bool t1, .bool t2, .bool t3] 242 := by rw [← hwa]; exact new2_0 w _ _
  have br : Blk wa (w.heap.size + 1) [.bool false, .int .u32 0, .int .u32 0] 134 := by rw [← hwa]; exact new2_1 w _ _
  have hra : Row PlE wa (.slice a n cap) ps := by rw [← hwa]; exact (HROW.out.alloc _).alloc _
  have hsz : wa.heap.size = w.heap.size + 2 := by rw [← hwa]; simp
  have HMA : Hid (Mod (Pt b (.slice a n cap)) w wa) := by rw [← hwa]; exact ((Mod.refl _ _).alloc _).alloc _
  have HBA : Hid (Blk wa b cs T) := ba
  have HBR : Hid (Blk wa (w.heap.size + 1) [.bool false, .int .u32 0, .int .u32 0] 134) := br
  have hown : wa.ownsRow 0 272 5 (.slice a n cap) n (ps.flatMap PlE.f) := by rw [HN.out] at hra ⊢; exact hra
  have hneg : ∀ g, (Value.slice a n cap).ownBlock = some g → g < w.heap.size := fun g hg => HROW.out.lt hg
  have hneR : some (w.heap.size + 1) ≠ (Value.slice a n cap).ownBlock := fun e => by have := hneg _ e.symm; omega
  have hneT : some w.heap.size ≠ (Value.slice a n cap).ownBlock := fun e => by have := hneg _ e.symm; omega
  clear hwa c0 C0 f0 hra hsw
  have c0 := ba.cell o HV.out
  have f0 := ba.free o
  have F0 := ba.freeA o
  have CA := ba.cellA o HV.out
  have d0 := bt.cell 0 rfl
  have d1 := bt.cell 1 rfl
  have d2 := bt.cell 2 rfl
  have d3 := bt.cell 3 rfl
  clear ba bt br
  have HSZ : Hid (wa.heap.size = w.heap.size + 2) := hsz
  have hltb : b < wa.heap.size := by omega
  have hltA : ∀ o', b < (wa.alloc o').drew.heap.size := fun o' => by show b < (wa.alloc o').heap.size; simp; omega
  clear hsz
  go_region_law (refine step_append_lies _ (by rfl) _ _ _ (by rfl) 0 272 i0 _ 5 8 Tryz.underlying130 hinf hz0 hz1 hz2 rfl (by omega) (.slice a n cap) n (ps.flatMap PlE.f) (by rfl) ((hown.alloc _).drew) ⟨wa.heap.size, 0, none⟩ 1 1 [.bool t0, .bool t1, .bool t2, .bool t3, .int .u32 0] (by rfl) (by rfl) (World.news_of_block (cs := #[.bool t0, .bool t1, .bool t2, .bool t3, .int .u32 0]) (t := 272) (fr := (0, 0)) (heap_alloc_new wa _)) (by intro u hu; simp at hu; rcases hu with rfl | rfl | rfl | rfl | rfl <;> rfl) (by omega) (by unfold maxLen; omega) (by omega) (by simp) (wa.heap.size + 1) (by simp) ?_; intro gg cap2 w1 hown1 hgrow hat hltt; have e0 : w1.cell? ⟨b, o, none⟩ = some (.slice a n cap) := (hgrow.cell_far ⟨b, o, none⟩ (hltA _) hbne).trans (CA _); have e1 : w1.frozen? ⟨b, o, none⟩ = false := (hgrow.frozen_far ⟨b, o, none⟩ (hltA _) hbne).trans (F0 _))
  all_goals
    have hv' : (Value.slice (some ⟨gg, 0, none⟩) (n + 1) cap2).ownBlock = some gg := rfl
    have hgb : gg ≠ b := by
      rcases hat with h | h
      · exact fun e => HNE.out (by rw [h, e])
      · omega
    have hgR : gg ≠ w.heap.size + 1 := by
      rcases hat with h | h
      · have := hneg gg h; omega
      · have := HSZ.out; omega
    have HFR : Hid (Fresh w (.slice a n cap) (.slice (some ⟨gg, 0, none⟩) (n + 1) cap2)) := by
      intro g hg
      cases hg
      rcases hat with h | h
      · exact Or.inl h
      · exact Or.inr (by show w.heap.size ≤ gg; have := HSZ.out; omega)
    have HR : Hid (Row PlE w1 (.slice (some ⟨gg, 0, none⟩) (n + 1) cap2) (ps ++ [⟨t, 0⟩])) := by
      refine Row.snoc ?_
      rw [HT.out, ← HN.out]
      exact hown1
    have hB1 : Blk w1 b cs T := ((HBA.out.alloc _).drew).grown hgrow hbne
    have hR1 : Blk w1 (w.heap.size + 1) [.bool false, .int .u32 0, .int .u32 0] 134 := ((HBR.out.alloc _).drew).grown hgrow hneR
    have HM : Hid (Mod (Pt b (.slice a n cap)) w w1) := ((HMA.out.alloc _).drew).grown hgrow (fun g hg _ => Or.inr hg)
    generalize hv2 : Value.slice (some ⟨gg, 0, none⟩) (n + 1) cap2 = v2 at *
    have hbR : b ≠ w.heap.size + 1 := by omega
    have HB2 : Hid (Blk (w1.setCell ⟨b, o, none⟩ v2) b (cs.set o v2) T) := hB1.set o v2
    have hR2 := hR1.other (a := ⟨b, o, none⟩) (fun e => hbR e.symm) v2
    have z0 := hR2.cell 0 rfl
    have z1 := hR2.cell 1 rfl
    have z2 := hR2.cell 2 rfl
    have g0 := hR2.free 0
    have g1 := hR2.free 1
    have g2 := hR2.free 2
    clear hown1 hgrow hat hltt e0 e1 hB1 hR1 hR2 c0 f0 F0 CA d0 d1 d2 d3 hown
    go_wp2
    refine bodyPost_ret (v := .agg #[.bool false, .int .u32 (X : Int), .int .u32 (X : Int)]) (by simp [results, Tryz.results116, go_sem, z0, z1, z2]) rfl ⟨by rw [← hX]; rfl, v2, ?_, ?_, ?_, HFR.out, ?_⟩
    · exact (((HR.out.other (a := ⟨b, o, none⟩) (by rw [hv']; simpa using hgb) _).other (a := ⟨w.heap.size + 1, 0, none⟩) (by rw [hv']; simpa using hgR) _).other (a := ⟨w.heap.size + 1, 1, none⟩) (by rw [hv']; simpa using hgR) _).other (a := ⟨w.heap.size + 1, 2, none⟩) (by rw [hv']; simpa using hgR) _
    · exact ((HB2.out.other (a := ⟨w.heap.size + 1, 0, none⟩) hbR _).other (a := ⟨w.heap.size + 1, 1, none⟩) hbR _).other (a := ⟨w.heap.size + 1, 2, none⟩) hbR _
    · rw [hv']; simpa using hgb
    · exact (((HM.out.setCell (a := ⟨b, o, none⟩) (fun _ => Or.inl rfl) _).setCell (a := ⟨w.heap.size + 1, 0, none⟩) (fun h => absurd h (by simp)) _).setCell (a := ⟨w.heap.size + 1, 1, none⟩) (fun h => absurd h (by simp)) _).setCell (a := ⟨w.heap.size + 1, 2, none⟩) (fun h => absurd h (by simp)) _
end Go.Proofs.YtmbapmbpnnaanabGreatDoor
