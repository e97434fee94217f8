import Derived.Test.YtmbapmbpnnaanabGreatDoorKJ
import Derived.Deep.LoopGhost
import Derived.Deep.CutRange
namespace Go.Proofs.YtmbapmbpnnaanabGreatDoor
open Go.RowKit
attribute [local go_sem ↓] Go.wp_at_zero Go.wp_at_succ
attribute [local go_sem] pieceV

def pcells (x : Mir.Piece) : List Value := [.bool x.e, .int .u32 (x.f : Int), .int .u32 (x.l : Int)]
theorem either_ok {x y : Mir.Piece} (hx : POk x) (hy : POk y) : POk (Mir.eitherM x y) := ⟨or_lt32 hx.1 hy.1, or_lt32 hx.2 hy.2⟩
theorem Blk.put3 {w : World} {L : Nat} {a0 a1 a2 : Value} {T : Nat} (h : Blk w L [a0, a1, a2] T) (b0 b1 b2 : Value) : Blk (((w.setCell ⟨L, 0, none⟩ b0).setCell ⟨L, 1, none⟩ b1).setCell ⟨L, 2, none⟩ b2) L [b0, b1, b2] T := ((h.set 0 b0).set 1 b1).set 2 b2
theorem Blk.other3 {w : World} {L M : Nat} {cs : List Value} {T : Nat} (h : Blk w M cs T) (hne : M ≠ L) (b0 b1 b2 : Value) : Blk (((w.setCell ⟨L, 0, none⟩ b0).setCell ⟨L, 1, none⟩ b1).setCell ⟨L, 2, none⟩ b2) M cs T :=
  ((h.other (a := ⟨L, 0, none⟩) hne b0).other (a := ⟨L, 1, none⟩) hne b1).other (a := ⟨L, 2, none⟩) hne b2
theorem Mod.put3 {S : Nat → Prop} {w w1 : World} {L : Nat} (h : Mod S w w1) (hL : w.heap.size ≤ L) (b0 b1 b2 : Value) : Mod S w (((w1.setCell ⟨L, 0, none⟩ b0).setCell ⟨L, 1, none⟩ b1).setCell ⟨L, 2, none⟩ b2) :=
  ((h.setCell (a := ⟨L, 0, none⟩) (fun h => absurd h (by simp; omega)) b0).setCell (a := ⟨L, 1, none⟩) (fun h => absurd h (by simp; omega)) b1).setCell (a := ⟨L, 2, none⟩) (fun h => absurd h (by simp; omega)) b2

section
variable {w w1 w2 w' : World} {b : Nat} {s : ByteArray} {vp vp1 : Value} {p p1 p2 : Mir.PS}
theorem PSt.put3 {L : Nat} (h : PSt w b s vp p) (hb : b ≠ L) (hv : vp.ownBlock ≠ some L) (b0 b1 b2 : Value) : PSt (((w.setCell ⟨L, 0, none⟩ b0).setCell ⟨L, 1, none⟩ b1).setCell ⟨L, 2, none⟩ b2) b s vp p :=
  ((h.other (a := ⟨L, 0, none⟩) hb hv b0).other (a := ⟨L, 1, none⟩) hb hv b1).other (a := ⟨L, 2, none⟩) hb hv b2

/-- Where 'context' stands: the places, the whole so far (in block L), the result's block R. -/
structure CtxI (s : ByteArray) (W0 : World) (b : Nat) (vp : Value) (R L : Nat) (vk : Value) (pk : Mir.PS) (wh : Mir.Piece) (wr : World) : Prop where
  pst : PSt wr b s vk pk
  fr : Fresh W0 vp vk
  md : Mod (Pt b vp) W0 wr
  res : Blk wr R [.bool false, .int .u32 0, .int .u32 0] 134
  who : Blk wr L (pcells wh) 134
  ok : POk wh
  nR : vk.ownBlock ≠ some R
  nL : vk.ownBlock ≠ some L

set_option maxHeartbeats 2000000 in
set_option maxRecDepth 100000 in
theorem ctx_any (hs : s.size ≤ 1048576) {F : Nat} (hR : ∀ g, g < F → RowAt s g) : CtxAt s F := by
  intro w b vp p d x p' h hd hM
  have hb := h.lt
  have HOWN : Hid (∀ g, vp.ownBlock = some g → g < w.heap.size) := fun g hg => h.own (g := g) hg
  have hvR : vp.ownBlock ≠ some w.heap.size := fun e => by have := h.own e; omega
  have hbR : b ≠ w.heap.size := by omega
  match F, hM, hR with
  | 0, hM, _ => rw [Mir.ctxM_0] at hM; cases hM
  | f + 1, hM, hR =>
    rw [Mir.ctxM_1] at hM
    cases hr : Mir.rowM s.data.toList f d ⟨true, 0, 0⟩ p with
    | none => rw [hr] at hM; cases hM
    | some r =>
      obtain ⟨w0, p1⟩ := r
      rw [hr] at hM
      have hM : Mir.rowsM s.data.toList f d w0 p1 = some (x, p') := hM
      have HROW : Hid (∀ g, g ≤ f → RowAt s g) := fun g hg => hR g (by omega)
      have H1 : Hid (∀ o, Calls Tryz.prog 142 #[.pointer (some ⟨b, 0, none⟩), .int .i64 (d : Int)] (w.alloc o) fun e w' => Gives (w.alloc o) b s vp w0 p1 e w') := fun o => hR f (by omega) _ b vp p d w0 p1 (h.alloc o) hd hr
      have HM : Hid (Mir.rowsM s.data.toList f d w0 p1 = some (x, p')) := hM
      clear hr hM hR h
      go_enter Tryz.func119, Tryz.ntmps119
      go_wp2_with fail
      refine (H1.out _).mono ?_
      rintro e w1 ⟨rfl, hx0, vp1, h1, f1, m1⟩
      clear H1
      have hs1 := m1.size
      simp at hs1
      have zR1 : Blk w1 w.heap.size [.bool false, .int .u32 0, .int .u32 0] 134 := keepL (heap_alloc_new w _) (by omega) hvR m1
      have hI0 : Hid (∀ o, o = Obj.cells #[.bool w0.e, .int .u32 (w0.f : Int), .int .u32 (w0.l : Int)] 134 → CtxI s (w.alloc (Obj.cells #[.bool false, .int .u32 0, .int .u32 0] 134)) b vp w.heap.size w1.heap.size vp1 p1 w0 (w1.alloc o)) := fun o ho => by
        subst ho
        exact ⟨h1.alloc _, f1, m1.alloc _, zR1.alloc _, heap_alloc_new w1 _, hx0, f1.old hvR (by simp), fun e => by have := h1.own e; omega⟩
      generalize hL : w1.heap.size = L at hI0 hs1
      have HL : Hid (w1.heap.size = L) := hL
      have HW0 : Hid (Mod No w (w.alloc (Obj.cells #[.bool false, .int .u32 0, .int .u32 0] 134))) := (Mod.refl _ _).alloc _
      generalize hW0 : w.alloc (Obj.cells #[.bool false, .int .u32 0, .int .u32 0] 134) = W0 at hI0
      have HW1 : Hid (w.alloc (Obj.cells #[.bool false, .int .u32 0, .int .u32 0] 134) = W0) := hW0
      clear h1 f1 m1 zR1 hW0
      go_wp2_with fail
      clear hL
      have hbL : b ≠ L := by omega
      go_loopg [6] f (fun g _ wr => ∃ vk pk wh, CtxI s W0 b vp w.heap.size L vk pk wh wr ∧ g ≤ f ∧ Mir.rowsM s.data.toList g d wh pk = some (x, p'))
      case atStart => exact ⟨vp1, p1, w0, hI0.out _ rfl, Nat.le_refl _, HM.out⟩
      case round =>
        obtain ⟨vk, pk, wh, hI, hg, hrow⟩ := hrel
        match gk, hg, hrow with
        | 0, _, hrow => rw [Mir.rowsM_0] at hrow; cases hrow
        | g + 1, hg, hrow =>
          rw [Mir.rowsM_1] at hrow
          have hskip := lskip hI.pst 124 hs
          have hRL : w.heap.size ≠ L := by omega
          have hw0L : W0.heap.size ≤ L := by rw [← HW1.out]; simp; omega
          have hw0R : w.heap.size < W0.heap.size := by rw [← HW1.out]; simp
          cases c : Mir.sees s.data.toList 124 pk with
          | true =>
            rw [c, if_pos rfl] at hrow
            rw [c, show Mir.skipM s.data.toList 124 pk = { pk with k := pk.k + 1 } by unfold Mir.skipM; rw [if_pos c]] at hskip
            cases hr : Mir.rowM s.data.toList g d ⟨true, 0, 0⟩ { pk with k := pk.k + 1 } with
            | none => rw [hr] at hrow; cases hrow
            | some r =>
              obtain ⟨y, q⟩ := r
              rw [hr] at hrow
              have HN : Hid (Mir.rowsM s.data.toList g d (Mir.eitherM wh y) q = some (x, p')) := hrow
              have HC : Hid (∀ wx, PSt wx b s vk { pk with k := pk.k + 1 } → Calls Tryz.prog 142 #[.pointer (some ⟨b, 0, none⟩), .int .i64 (d : Int)] wx fun e w' => Gives wx b s vk y q e w') := fun wx hx => HROW.out g (by omega) wx b vk _ d y q hx hd hr
              have HE : Hid (∀ wx, POk y → Calls Tryz.prog 143 #[pieceV wh, pieceV y] wx fun e w' => e = .returned (pieceV (Mir.eitherM wh y)) ∧ Mod No wx w') := fun wx hy => either_any wh y wx hI.ok hy
              have HI : Hid (CtxI s W0 b vp w.heap.size L vk pk wh wr) := hI
              generalize hez : Mir.eitherM wh y = z at HN HE
              have HZ : Hid (POk y → POk z) := fun hy => by rw [← hez]; exact either_ok hI.ok hy
              clear hrow hr c hI hez
              go_wp2_with fail
              refine hskip.mono ?_
              rintro e w2 ⟨rfl, h2, m2⟩
              clear hskip
              go_wp2_with fail
              refine (HC.out _ h2).mono ?_
              rintro e w3 ⟨rfl, hy, v3, h3, f3, m3⟩
              have m3 : Mod (Pt b vk) wr w3 := m2.trans m3
              have f3 : Fresh wr vk v3 := (Fresh.refl _ _).trans f3 m2.size
              have zL : Blk w3 L (pcells wh) 134 := keepL HI.out.who (fun e => hbL e.symm) HI.out.nL m3
              have zR : Blk w3 w.heap.size [.bool false, .int .u32 0, .int .u32 0] 134 := keepL HI.out.res (fun e => hbR e.symm) HI.out.nR m3
              have hL3 := zL.lt
              have l0 := zL.cellA 0 rfl
              have l1 := zL.cellA 1 rfl
              have l2 := zL.cellA 2 rfl
              clear h2 m2 HC
              go_wp2_with fail
              refine (HE.out _ hy).mono ?_
              rintro e w4 ⟨rfl, m4⟩
              have m4 : Mod No w3 w4 := ((Mod.refl _ _).alloc _).no m4
              have zL4 : Blk w4 L (pcells wh) 134 := zL.mod m4 (fun x => x)
              have zR4 : Blk w4 w.heap.size [.bool false, .int .u32 0, .int .u32 0] 134 := zR.mod m4 (fun x => x)
              have HI2 : Hid (∀ b0 b1 b2, b0 = .bool z.e → b1 = .int .u32 (z.f : Int) → b2 = .int .u32 (z.l : Int) → CtxI s W0 b vp w.heap.size L v3 q z (((w4.setCell ⟨L, 0, none⟩ b0).setCell ⟨L, 1, none⟩ b1).setCell ⟨L, 2, none⟩ b2)) := fun b0 b1 b2 e0 e1 e2 => by
                subst e0 e1 e2
                have n1 : v3.ownBlock ≠ some L := f3.old HI.out.nL HI.out.who.lt
                have n2 : v3.ownBlock ≠ some w.heap.size := f3.old HI.out.nR HI.out.res.lt
                exact ⟨(h3.no m4).put3 hbL n1 _ _ _, HI.out.fr.trans f3 HI.out.md.size, ((HI.out.md.trans' m3 (Pt.fresh HI.out.fr)).no m4).put3 hw0L _ _ _, zR4.other3 hRL _ _ _, zL4.put3 _ _ _, HZ.out hy, n2, n1⟩
              have q0 := zL4.cell 0 rfl
              have q1 := zL4.cell 1 rfl
              have q2 := zL4.cell 2 rfl
              have g0 := zL4.free 0
              have g1 := zL4.free 1
              have g2 := zL4.free 2
              clear h3 f3 m3 m4 zL zR zL4 zR4 l0 l1 l2 HE
              go_wp2
              go_roundg g
              case measure => omega
              case rel => exact ⟨v3, q, z, HI2.out _ _ _ rfl rfl rfl, by omega, HN.out⟩
          | false =>
            rw [c, if_neg (by simp)] at hrow
            simp only [Option.some.injEq, Prod.mk.injEq] at hrow
            obtain ⟨rfl, rfl⟩ := hrow
            rw [c, show Mir.skipM s.data.toList 124 pk = pk by unfold Mir.skipM; rw [c, if_neg (by simp)]] at hskip
            have HI : Hid (CtxI s W0 b vp w.heap.size L vk pk wh wr) := hI
            clear hI c
            go_wp2_with fail
            refine hskip.mono ?_
            rintro e w2 ⟨rfl, h2, m2⟩
            clear hskip
            have zL : Blk w2 L (pcells wh) 134 := keepL HI.out.who (fun e => hbL e.symm) HI.out.nL m2
            have zR : Blk w2 w.heap.size [.bool false, .int .u32 0, .int .u32 0] 134 := keepL HI.out.res (fun e => hbR e.symm) HI.out.nR m2
            have HLD : Hid (Led (w.alloc (Obj.cells #[.bool false, .int .u32 0, .int .u32 0] 134)) w2 b s vp pk) := by rw [HW1.out]; exact Led.next HI.out.fr HI.out.md (h2.led m2)
            have l0 := zL.cell 0 rfl
            have l1 := zL.cell 1 rfl
            have l2 := zL.cell 2 rfl
            have z0 := zR.cell 0 rfl
            have z1 := zR.cell 1 rfl
            have z2 := zR.cell 2 rfl
            have g0 := zR.free 0
            have g1 := zR.free 1
            have g2 := zR.free 2
            clear h2 m2 zL zR
            go_wp2
            exact bodyPost_ret (v := .agg #[.bool wh.e, .int .u32 (wh.f : Int), .int .u32 (wh.l : Int)]) (by simp [results, Tryz.results119, go_sem, z0, z1, z2]) rfl ⟨rfl, HI.out.ok, HLD.out.fin hb HOWN.out _ _ _⟩
end
end Go.Proofs.YtmbapmbpnnaanabGreatDoor
namespace Go.Proofs.YtmbapmbpnnaanabGreatDoor
open Go.RowKit
attribute [local go_sem ↓] Go.wp_at_zero Go.wp_at_succ
attribute [local go_sem] pieceV

section
variable {w w1 w2 w' : World} {b : Nat} {s : ByteArray} {vp vp1 : Value} {p p1 p2 : Mir.PS}

theorem CtxI.drewN {W0 : World} {R L : Nat} {vk : Value} {pk : Mir.PS} {wh : Mir.Piece} {wr : World} (h : CtxI s W0 b vp R L vk pk wh wr) (n : Nat) : CtxI s W0 b vp R L vk pk wh (wr.drewN n) :=
  ⟨h.pst.drewN n, h.fr, h.md.drewN n, h.res.drewN n, h.who.drewN n, h.ok, h.nR, h.nL⟩
theorem CtxI.drew {W0 : World} {R L : Nat} {vk : Value} {pk : Mir.PS} {wh : Mir.Piece} {wr : World} (h : CtxI s W0 b vp R L vk pk wh wr) : CtxI s W0 b vp R L vk pk wh wr.drew :=
  ⟨h.pst.drew, h.fr, h.md.drew, h.res.drew, h.who.drew, h.ok, h.nR, h.nL⟩
theorem CtxI.alloc {W0 : World} {R L : Nat} {vk : Value} {pk : Mir.PS} {wh : Mir.Piece} {wr : World} (h : CtxI s W0 b vp R L vk pk wh wr) (o : Obj) : CtxI s W0 b vp R L vk pk wh (wr.alloc o) :=
  ⟨h.pst.alloc o, h.fr, h.md.alloc o, h.res.alloc o, h.who.alloc o, h.ok, h.nR, h.nL⟩
/-- The parser went on. -/
theorem CtxI.step {W0 : World} {R L : Nat} {vk v3 : Value} {pk q : Mir.PS} {wh : Mir.Piece} {wr w3 : World} (h : CtxI s W0 b vp R L vk pk wh wr) (hbR : b ≠ R) (hbL : b ≠ L) (h3 : PSt w3 b s v3 q) (f3 : Fresh wr vk v3) (m3 : Mod (Pt b vk) wr w3) : CtxI s W0 b vp R L v3 q wh w3 :=
  ⟨h3, h.fr.trans f3 h.md.size, h.md.trans' m3 (Pt.fresh h.fr), keepL h.res (fun e => hbR e.symm) h.nR m3, keepL h.who (fun e => hbL e.symm) h.nL m3, h.ok, f3.old h.nR h.res.lt, f3.old h.nL h.who.lt⟩
/-- A store to the whole. -/
theorem CtxI.put {W0 : World} {R L : Nat} {vk : Value} {pk : Mir.PS} {wh z : Mir.Piece} {wr : World} (h : CtxI s W0 b vp R L vk pk wh wr) (hbL : b ≠ L) (hRL : R ≠ L) (hL : W0.heap.size ≤ L) (hz : POk z) {b0 b1 b2 : Value} (e0 : b0 = .bool z.e) (e1 : b1 = .int .u32 (z.f : Int)) (e2 : b2 = .int .u32 (z.l : Int)) :
    CtxI s W0 b vp R L vk pk z (((wr.setCell ⟨L, 0, none⟩ b0).setCell ⟨L, 1, none⟩ b1).setCell ⟨L, 2, none⟩ b2) := by
  subst e0 e1 e2
  exact ⟨h.pst.put3 hbL h.nL _ _ _, h.fr, h.md.put3 hL _ _ _, h.res.other3 hRL _ _ _, h.who.put3 _ _ _, hz, h.nR, h.nL⟩
/-- A store to a block of the call's own beside them. -/
theorem CtxI.beside {W0 : World} {R L P : Nat} {vk : Value} {pk : Mir.PS} {wh : Mir.Piece} {wr : World} (h : CtxI s W0 b vp R L vk pk wh wr) (hbP : b ≠ P) (hRP : R ≠ P) (hLP : L ≠ P) (hP : W0.heap.size ≤ P) (hv : vk.ownBlock ≠ some P) (b0 b1 b2 : Value) :
    CtxI s W0 b vp R L vk pk wh (((wr.setCell ⟨P, 0, none⟩ b0).setCell ⟨P, 1, none⟩ b1).setCell ⟨P, 2, none⟩ b2) :=
  ⟨h.pst.put3 hbP hv _ _ _, h.fr, h.md.put3 hP _ _ _, h.res.other3 hRP _ _ _, h.who.other3 hLP _ _ _, h.ok, h.nR, h.nL⟩

set_option maxHeartbeats 4000000 in
set_option maxRecDepth 100000 in
theorem row_any (hs : s.size ≤ 1048576) {F : Nat} (hP : ∀ g, g < F → PartAt s g) : RowAt s F := by
  intro w b vp p d x p' h hd hM
  have hb := h.lt
  have HOWN : Hid (∀ g, vp.ownBlock = some g → g < w.heap.size) := fun g hg => h.own (g := g) hg
  have hvR : vp.ownBlock ≠ some w.heap.size := fun e => by have := h.own e; omega
  have hbR : b ≠ w.heap.size := by omega
  have HPART : Hid (∀ g, g < F → PartAt s g) := hP
  have HM : Hid (Mir.rowM s.data.toList F d ⟨true, 0, 0⟩ p = some (x, p')) := hM
  have hI0 : Hid (CtxI s (w.alloc (Obj.cells #[.bool false, .int .u32 0, .int .u32 0] 134)) b vp w.heap.size (w.heap.size + 1) vp p ⟨true, 0, 0⟩ ((w.alloc (Obj.cells #[.bool false, .int .u32 0, .int .u32 0] 134)).alloc (Obj.cells #[.bool true, .int .u32 0, .int .u32 0] 134))) :=
    ⟨(h.alloc _).alloc _, Fresh.refl _ _, (Mod.refl _ _).alloc _, new2_0 w _ _, new2_1 w _ _, ⟨by decide, by decide⟩, hvR, fun e => by have := h.own e; omega⟩
  have hRL : w.heap.size ≠ w.heap.size + 1 := by omega
  have hbL : b ≠ w.heap.size + 1 := by omega
  have hw0L : (w.alloc (Obj.cells #[.bool false, .int .u32 0, .int .u32 0] 134)).heap.size ≤ w.heap.size + 1 := by simp
  clear hP hM h
  go_enter Tryz.func142, Tryz.ntmps142
  go_wp2_with fail
  generalize hW0 : w.alloc (Obj.cells #[.bool false, .int .u32 0, .int .u32 0] 134) = W0 at hI0 hw0L
  have HW1 : Hid (w.alloc (Obj.cells #[.bool false, .int .u32 0, .int .u32 0] 134) = W0) := hW0
  clear hW0
  go_loopg [6] F (fun g _ wr => ∃ vk pk wh, CtxI s W0 b vp w.heap.size (w.heap.size + 1) vk pk wh wr ∧ g ≤ F ∧ Mir.rowM s.data.toList g d wh pk = some (x, p'))
  case atStart => exact ⟨vp, p, ⟨true, 0, 0⟩, by rw [← HW1.out] at hI0 ⊢; exact hI0.out, Nat.le_refl _, HM.out⟩
  case round =>
    obtain ⟨vk, pk, wh, hI, hg, hrow⟩ := hrel
    match gk, hg, hrow with
    | 0, _, hrow => rw [Mir.rowM_0] at hrow; cases hrow
    | g + 1, hg, hrow =>
      rw [Mir.rowM_1] at hrow
      have hend := rowEnd_any hI.pst hs
      cases c : Mir.rowEnd s.data.toList pk with
      | true =>
        rw [c, if_pos rfl] at hrow
        simp only [Option.some.injEq, Prod.mk.injEq] at hrow
        obtain ⟨rfl, rfl⟩ := hrow
        rw [c] at hend
        have HI : Hid (CtxI s W0 b vp w.heap.size (w.heap.size + 1) vk pk wh wr) := hI
        clear hI c
        go_wp2_with fail
        refine hend.mono ?_
        rintro e w2 ⟨rfl, n2, rfl⟩
        clear hend
        have HI2 := HI.out.drewN n2
        generalize wr.drewN n2 = w2 at HI2 ⊢
        have HLD : Hid (Led (w.alloc (Obj.cells #[.bool false, .int .u32 0, .int .u32 0] 134)) w2 b s vp pk) := by rw [HW1.out]; exact ⟨vk, HI2.pst, HI2.fr, HI2.md⟩
        have l0 := HI2.who.cell 0 rfl
        have l1 := HI2.who.cell 1 rfl
        have l2 := HI2.who.cell 2 rfl
        have z0 := HI2.res.cell 0 rfl
        have z1 := HI2.res.cell 1 rfl
        have z2 := HI2.res.cell 2 rfl
        have g0 := HI2.res.free 0
        have g1 := HI2.res.free 1
        have g2 := HI2.res.free 2
        clear HI2
        go_wp2
        exact bodyPost_ret (v := .agg #[.bool wh.e, .int .u32 (wh.f : Int), .int .u32 (wh.l : Int)]) (by simp [results, Tryz.results142, go_sem, z0, z1, z2]) rfl ⟨rfl, HI.out.ok, HLD.out.fin hb HOWN.out _ _ _⟩
      | false =>
        rw [c, if_neg (by simp)] at hrow
        rw [c] at hend
        cases hr : Mir.partM s.data.toList g d pk with
        | none => rw [hr] at hrow; cases hrow
        | some r =>
          obtain ⟨y, q⟩ := r
          rw [hr] at hrow
          dsimp only at hrow
          cases hst : Mir.starsM s.data.toList g y q with
          | none => rw [hst] at hrow; cases hrow
          | some r =>
            obtain ⟨y2, q2⟩ := r
            rw [hst] at hrow
            have HN : Hid (Mir.rowM s.data.toList g d (Mir.joinM q2.ps wh y2).1 { q2 with ps := (Mir.joinM q2.ps wh y2).2 } = some (x, p')) := hrow
            have HST : Hid (Mir.starsM s.data.toList g y q = some (y2, q2)) := hst
            have HC : Hid (∀ wx, PSt wx b s vk pk → Calls Tryz.prog 157 #[.pointer (some ⟨b, 0, none⟩), .int .i64 (d : Int)] wx fun e w' => Gives wx b s vk y q e w') := fun wx hx => HPART.out g (by omega) wx b vk pk d y q hx hd hr
            have HI : Hid (CtxI s W0 b vp w.heap.size (w.heap.size + 1) vk pk wh wr) := hI
            clear hrow hr hst c hI
            go_wp2_with fail
            refine hend.mono ?_
            rintro e w2 ⟨rfl, n2, rfl⟩
            clear hend
            have HI : Hid (CtxI s W0 b vp w.heap.size (w.heap.size + 1) vk pk wh (wr.drewN n2)) := HI.out.drewN n2
            generalize wr.drewN n2 = w2 at HI ⊢
            go_wp2_with fail
            refine (HC.out _ HI.out.pst).mono ?_
            rintro e w3 ⟨rfl, hy, v3, h3, f3, m3⟩
            have HI3 : Hid (CtxI s W0 b vp w.heap.size (w.heap.size + 1) v3 q wh w3) := HI.out.step hbR hbL h3 f3 m3
            have hL3 := HI3.out.who.lt
            have HV3 : Hid (v3.ownBlock ≠ some w3.heap.size) := fun e => by have := h3.own e; omega
            have HW3 : Hid (W0.heap.size ≤ w3.heap.size) := HI3.out.md.size
            have hbP : b ≠ w3.heap.size := by have := h3.lt; omega
            have hRP : w.heap.size ≠ w3.heap.size := by omega
            have hLP : w.heap.size + 1 ≠ w3.heap.size := by omega
            clear HC HI h3 f3 m3
            have HP0 : Hid (∀ o, o = Obj.cells #[.bool y.e, .int .u32 (y.f : Int), .int .u32 (y.l : Int)] 134 → CtxI s W0 b vp w.heap.size (w.heap.size + 1) v3 q wh (w3.alloc o) ∧ Blk (w3.alloc o) w3.heap.size (pcells y) 134) := fun o ho => ⟨HI3.out.alloc o, by subst ho; exact heap_alloc_new w3 _⟩
            go_wp2_with fail
            go_loopg [] g (fun h wx => ∃ vm qm ym, CtxI s W0 b vp w.heap.size (w.heap.size + 1) vm qm wh wx ∧ Blk wx w3.heap.size (pcells ym) 134 ∧ POk ym ∧ vm.ownBlock ≠ some w3.heap.size ∧ Mir.starsM s.data.toList h ym qm = some (y2, q2))
            case atStart => exact ⟨v3, q, y, (HP0.out _ rfl).1, (HP0.out _ rfl).2, hy, HV3.out, HST.out⟩
            case round =>
              obtain ⟨vm, qm, ym, hI, hB, hyo, hvP, hst⟩ := hrel
              match gk, hst with
              | 0, hst => rw [Mir.starsM] at hst; cases hst
              | k + 1, hst =>
                rw [Mir.starsM] at hst
                have hskip := lskip hI.pst 42 hs
                cases c : Mir.sees s.data.toList 42 qm with
                | true =>
                  rw [c, if_pos rfl] at hst
                  rw [c, show Mir.skipM s.data.toList 42 qm = { qm with k := qm.k + 1 } by unfold Mir.skipM; rw [if_pos c]] at hskip
                  have HS2 : Hid (Mir.starsM s.data.toList k (Mir.repM qm.ps ym).1 { qm with k := qm.k + 1, ps := (Mir.repM qm.ps ym).2 } = some (y2, q2)) := hst
                  have HI : Hid (CtxI s W0 b vp w.heap.size (w.heap.size + 1) vm qm wh wr) := hI
                  have HB : Hid (Blk wr w3.heap.size (pcells ym) 134) := hB
                  clear hst c hI hB
                  go_wp2_with fail
                  refine hskip.mono ?_
                  rintro e w4 ⟨rfl, h4, m4⟩
                  clear hskip
                  have HI4 : Hid (CtxI s W0 b vp w.heap.size (w.heap.size + 1) vm { qm with k := qm.k + 1 } wh w4) := HI.out.step hbR hbL h4 (Fresh.refl _ _) m4
                  have hB4 : Blk w4 w3.heap.size (pcells ym) 134 := keepL HB.out (fun e => hbP e.symm) hvP m4
                  have HB4 : Hid (Blk w4 w3.heap.size (pcells ym) 134) := hB4
                  have a0 := hB4.cell 0 rfl
                  have a1 := hB4.cell 1 rfl
                  have a2 := hB4.cell 2 rfl
                  clear h4 m4 HI HB hB4
                  go_wp2_with fail
                  go_region_with (go_at_call 158; refine (lrep HI4.out.drew.pst hyo).mono ?_; rintro e w5 ⟨rfl, h5, m5⟩; have zP := keepL HB4.out.drew (fun e => hbP e.symm) hvP m5; have z0 := zP.cell 0 rfl; have z1 := zP.cell 1 rfl; have z2 := zP.cell 2 rfl; have g0 := zP.free 0; have g1 := zP.free 1; have g2 := zP.free 2)
                  all_goals
                    have HI5 : Hid (CtxI s W0 b vp w.heap.size (w.heap.size + 1) vm { qm with k := qm.k + 1, ps := (Mir.repM qm.ps ym).2 } wh w5) := HI4.out.drew.step hbR hbL h5 (Fresh.refl _ _) m5
                    have HZP : Hid (Blk w5 w3.heap.size (pcells ym) 134) := zP
                    have HRO : Hid (POk (Mir.repM qm.ps ym).1) := hyo
                    clear h5 m5 zP a0 a1 a2 HI4 HB4
                    generalize Mir.repM qm.ps ym = rr at HI5 HS2 HRO ⊢
                    go_wp2
                    go_roundg k
                    case measure => omega
                    case rel => exact ⟨vm, _, rr.1, HI5.out.beside hbP hRP hLP HW3.out hvP _ _ _, HZP.out.put3 _ _ _, HRO.out, hvP, HS2.out⟩
                | false =>
                  rw [c, if_neg (by simp)] at hst
                  simp only [Option.some.injEq, Prod.mk.injEq] at hst
                  obtain ⟨rfl, rfl⟩ := hst
                  rw [c, show Mir.skipM s.data.toList 42 qm = qm by unfold Mir.skipM; rw [c, if_neg (by simp)]] at hskip
                  have HI : Hid (CtxI s W0 b vp w.heap.size (w.heap.size + 1) vm qm wh wr) := hI
                  have HB : Hid (Blk wr w3.heap.size (pcells ym) 134) := hB
                  clear c hI hB
                  go_wp2_with fail
                  refine hskip.mono ?_
                  rintro e w4 ⟨rfl, h4, m4⟩
                  clear hskip
                  have HI4 : Hid (CtxI s W0 b vp w.heap.size (w.heap.size + 1) vm qm wh w4) := HI.out.step hbR hbL h4 (Fresh.refl _ _) m4
                  have hB4 : Blk w4 w3.heap.size (pcells ym) 134 := keepL HB.out (fun e => hbP e.symm) hvP m4
                  have a0 := hB4.cell 0 rfl
                  have a1 := hB4.cell 1 rfl
                  have a2 := hB4.cell 2 rfl
                  have l0 := HI4.out.who.cell 0 rfl
                  have l1 := HI4.out.who.cell 1 rfl
                  have l2 := HI4.out.who.cell 2 rfl
                  clear h4 m4 HI HB hB4
                  go_wp2_with fail
                  go_region_with (go_at_call 85; refine (ljoin HI4.out.drew.pst HI4.out.ok hyo).mono ?_; rintro e w5 ⟨rfl, h5, m5⟩; have zL := keepL HI4.out.drew.who (fun e => hbL e.symm) HI4.out.nL m5; have z0 := zL.cell 0 rfl; have z1 := zL.cell 1 rfl; have z2 := zL.cell 2 rfl; have g0 := zL.free 0; have g1 := zL.free 1; have g2 := zL.free 2)
                  all_goals
                    have HI5 : Hid (CtxI s W0 b vp w.heap.size (w.heap.size + 1) vm { qm with ps := (Mir.joinM qm.ps wh ym).2 } wh w5) := HI4.out.drew.step hbR hbL h5 (Fresh.refl _ _) m5
                    have HRO : Hid (POk (Mir.joinM qm.ps wh ym).1) := join_ok HI4.out.ok hyo
                    clear h5 m5 zL a0 a1 a2 l0 l1 l2 HI4
                    generalize Mir.joinM qm.ps wh ym = rr at HI5 HN HRO ⊢
                    go_wp2
                    go_roundg g
                    case measure => omega
                    case rel => exact ⟨vm, _, rr.1, HI5.out.put hbL hRL hw0L HRO.out rfl rfl rfl, by omega, HN.out⟩
end
end Go.Proofs.YtmbapmbpnnaanabGreatDoor
namespace Go.Proofs.YtmbapmbpnnaanabGreatDoor
open Go.RowKit
attribute [local go_sem ↓] Go.wp_at_zero Go.wp_at_succ
attribute [local go_sem] pieceV

theorem parse_all (s : ByteArray) (hs : s.size ≤ 1048576) : ∀ F g, g ≤ F → CtxAt s g ∧ RowAt s g ∧ PartAt s g := by
  intro F
  induction F with
  | zero =>
    intro g hg
    obtain rfl : g = 0 := by omega
    refine ⟨ctx_any hs (fun g h => by omega), row_any hs (fun g h => by omega), ?_⟩
    intro w b vp p d x p' h hd hM
    rw [Mir.partM_0] at hM; cases hM
  | succ F ih =>
    intro g hg
    by_cases h : g ≤ F
    · exact ih g h
    · obtain rfl : g = F + 1 := by omega
      exact ⟨ctx_any hs (fun g h => (ih g (by omega)).2.1), row_any hs (fun g h => (ih g (by omega)).2.2), part_any hs (ih F (Nat.le_refl _)).1⟩

section
variable {w w1 w2 w' : World} {b : Nat} {s : ByteArray} {vp vp1 : Value} {p p1 p2 : Mir.PS}

/-- What 'wholeContext' reads. -/
def whoM (l : List UInt8) (p : Mir.PS) : Option (Mir.Piece × Mir.PS) :=
  if 14 < l.length - p.k then some (⟨false, 0, 0⟩, Mir.failM p) else Mir.ctxM l Mir.fuelP 0 p

set_option maxHeartbeats 2000000 in
set_option maxRecDepth 100000 in
theorem whole_any (h : PSt w b s vp p) (hs : s.size ≤ 1048576) {x : Mir.Piece} {p' : Mir.PS} (hM : whoM s.data.toList p = some (x, p')) :
    Calls Tryz.prog 84 #[.pointer (some ⟨b, 0, none⟩)] w fun e w' => Gives w b s vp x p' e w' := by
  have hb := h.lt
  have HOWN : Hid (∀ g, vp.ownBlock = some g → g < w.heap.size) := fun g hg => h.own (g := g) hg
  have hvR : vp.ownBlock ≠ some w.heap.size := fun e => by have := h.own e; omega
  have hbR : b ≠ w.heap.size := by omega
  have hks := h.ks
  unfold whoM at hM
  rw [data_len] at hM
  have HLE : Hid (∀ o, Calls Tryz.prog 70 #[.pointer (some ⟨b, 0, none⟩)] (w.alloc o) fun e w' => e = .returned (.int .i64 ((s.size : Int) - (p.k : Int))) ∧ ∃ n, w' = (w.alloc o).drewN n) := fun o => lleft (h.alloc o) hs
  have HP : Hid (∀ o n, PSt ((w.alloc o).drewN n) b s vp p) := fun o n => (h.alloc o).drewN n
  by_cases h3 : 14 < s.size - p.k
  · rw [if_pos h3] at hM
    simp only [Option.some.injEq, Prod.mk.injEq] at hM
    obtain ⟨rfl, rfl⟩ := hM
    have h3i : (14 : Int) < (s.size : Int) - (p.k : Int) := by omega
    generalize (s.size : Int) - (p.k : Int) = D at HLE h3i
    clear h h3 hks
    go_enter Tryz.func84, Tryz.ntmps84
    go_wp2_with fail
    refine (HLE.out _).mono ?_
    rintro e w1 ⟨rfl, n1, rfl⟩
    go_wp2_with fail
    refine (lfail (HP.out _ n1)).mono ?_
    rintro e w1 ⟨rfl, h1, m1⟩
    have hR0 : Blk (w.alloc (Obj.cells #[.bool false, .int .u32 0, .int .u32 0] 134)) w.heap.size [.bool false, .int .u32 0, .int .u32 0] 134 := heap_alloc_new w _
    have zR : Blk w1 w.heap.size [.bool false, .int .u32 0, .int .u32 0] 134 := keepL (hR0.drewN n1) (fun e => hbR e.symm) hvR m1
    have HL : Hid (Led (w.alloc (Obj.cells #[.bool false, .int .u32 0, .int .u32 0] 134)) w1 b s vp (Mir.failM p)) := Led.next (Fresh.refl _ _) ((Mod.refl _ _).drewN n1) (h1.led m1)
    have z0 := zR.cell 0 rfl
    have z1 := zR.cell 1 rfl
    have z2 := zR.cell 2 rfl
    have g0 := zR.free 0
    have g1 := zR.free 1
    have g2 := zR.free 2
    clear HLE HP h1 m1 zR
    go_wp2
    exact bodyPost_ret (v := .agg #[.bool false, .int .u32 0, .int .u32 0]) (by simp [results, Tryz.results84, go_sem, z0, z1, z2]) rfl ⟨rfl, ⟨by decide, by decide⟩, HL.out.fin hb HOWN.out _ _ _⟩
  · rw [if_neg h3] at hM
    have h3i : ¬ (14 : Int) < (s.size : Int) - (p.k : Int) := by omega
    generalize (s.size : Int) - (p.k : Int) = D at HLE h3i
    have HC : Hid (∀ wx, PSt wx b s vp p → Calls Tryz.prog 119 #[.pointer (some ⟨b, 0, none⟩), .int .i64 0] wx fun e w' => Gives wx b s vp x p' e w') := fun wx hx => (parse_all s hs _ _ (Nat.le_refl _)).1 wx b vp p 0 x p' hx (by omega) hM
    clear h h3 hks hM
    go_enter Tryz.func84, Tryz.ntmps84
    go_wp2_with fail
    refine (HLE.out _).mono ?_
    rintro e w1 ⟨rfl, n1, rfl⟩
    go_wp2_with fail
    refine (HC.out _ (HP.out _ n1)).mono ?_
    rintro e w1 ⟨rfl, hx, hL⟩
    have hR0 : Blk (w.alloc (Obj.cells #[.bool false, .int .u32 0, .int .u32 0] 134)) w.heap.size [.bool false, .int .u32 0, .int .u32 0] 134 := heap_alloc_new w _
    have zR := hL.keep (hR0.drewN n1) hbR hvR
    have HL : Hid (Led (w.alloc (Obj.cells #[.bool false, .int .u32 0, .int .u32 0] 134)) w1 b s vp p') := Led.next (Fresh.refl _ _) ((Mod.refl _ _).drewN n1) hL
    have z0 := zR.cell 0 rfl
    have z1 := zR.cell 1 rfl
    have z2 := zR.cell 2 rfl
    have g0 := zR.free 0
    have g1 := zR.free 1
    have g2 := zR.free 2
    clear HLE HP hL zR HC
    go_wp2
    exact bodyPost_ret (v := .agg #[.bool x.e, .int .u32 (x.f : Int), .int .u32 (x.l : Int)]) (by simp [results, Tryz.results84, go_sem, z0, z1, z2]) rfl ⟨rfl, hx, HL.out.fin hb HOWN.out _ _ _⟩

/-- A part beside the whole, in block P. -/
structure PartI (s : ByteArray) (W0 : World) (b : Nat) (vp : Value) (R L P : Nat) (v3 : Value) (q : Mir.PS) (wh y : Mir.Piece) (wc : World) : Prop where
  ctx : CtxI s W0 b vp R L v3 q wh wc
  blk : Blk wc P (pcells y) 134
  ok : POk y
  nv : v3.ownBlock ≠ some P
  nb : b ≠ P
  nR : R ≠ P
  nL : L ≠ P
  le : W0.heap.size ≤ P
section
variable {W0 wr wA wB : World} {R L : Nat} {vk : Value} {q q' : Mir.PS} {wh y : Mir.Piece}
theorem PartI.late (h : CtxI s W0 b vp R L vk q wh wr) (hbR : b ≠ R) (hbL : b ≠ L) (mA : Mod No wr.drew wA) (hL : Led wA wB b s vk q') (hy : POk y) {b0 b1 b2 : Value} (e0 : b0 = .bool y.e) (e1 : b1 = .int .u32 (y.f : Int)) (e2 : b2 = .int .u32 (y.l : Int)) :
    ∃ v3, PartI s W0 b vp R L wB.heap.size v3 q' wh y (wB.alloc (Obj.cells #[b0, b1, b2] 134)) := by
  subst e0 e1 e2
  obtain ⟨v3, h3, f3, m3⟩ := hL
  have m := ((Mod.refl (Pt b vk) wr).drew.no mA)
  have hc := h.step hbR hbL h3 ((Fresh.refl _ _).trans f3 m.size) (m.trans m3)
  have h1 := hc.res.lt
  have h2 := hc.who.lt
  have h4 := hc.pst.lt
  exact ⟨v3, hc.alloc _, heap_alloc_new wB _, hy, fun e => by have := h3.own e; omega, by omega, by omega, by omega, hc.md.size⟩
theorem PartI.mid (h : CtxI s W0 b vp R L vk q wh wr) (hbR : b ≠ R) (hbL : b ≠ L) (mA : Mod No wr.drew wA) {o : Obj} (ho : o = Obj.cells #[.bool false, .int .u32 0, .int .u32 0] 134) (hL : Led (wA.alloc o) wB b s vk q') (hy : POk y) {b0 b1 b2 : Value} (e0 : b0 = .bool y.e) (e1 : b1 = .int .u32 (y.f : Int)) (e2 : b2 = .int .u32 (y.l : Int)) :
    ∃ v3, PartI s W0 b vp R L wA.heap.size v3 q' wh y (((wB.setCell ⟨wA.heap.size, 0, none⟩ b0).setCell ⟨wA.heap.size, 1, none⟩ b1).setCell ⟨wA.heap.size, 2, none⟩ b2) := by
  subst e0 e1 e2
  obtain ⟨v3, h3, f3, m3⟩ := hL
  have m := ((Mod.refl (Pt b vk) wr).drew.no mA)
  have hcA := h.step hbR hbL ((h.pst.drew).no mA) (Fresh.refl _ _) m
  have h1 := hcA.res.lt
  have h2 := hcA.who.lt
  have h4 := hcA.pst.lt
  have hvk : vk.ownBlock ≠ some wA.heap.size := fun e => by have := hcA.pst.own e; omega
  have hc := (hcA.alloc o).step hbR hbL h3 f3 m3
  have hP : Blk wB wA.heap.size [.bool false, .int .u32 0, .int .u32 0] 134 := keepL (by subst ho; exact heap_alloc_new wA _) (by omega) hvk m3
  have hv3 : v3.ownBlock ≠ some wA.heap.size := f3.old hvk (by simp)
  exact ⟨v3, hc.beside (by omega) (by omega) (by omega) hcA.md.size hv3 _ _ _, hP.put3 _ _ _, hy, hv3, by omega, by omega, by omega, hcA.md.size⟩
theorem PartI.early (h : CtxI s W0 b vp R L vk q wh wr) (hbR : b ≠ R) (hbL : b ≠ L) {o : Obj} (ho : o = Obj.cells #[.bool false, .int .u32 0, .int .u32 0] 134) (mA : Mod No (wr.drew.alloc o) wA) (hL : Led wA wB b s vk q') (hy : POk y) {b0 b1 b2 : Value} (e0 : b0 = .bool y.e) (e1 : b1 = .int .u32 (y.f : Int)) (e2 : b2 = .int .u32 (y.l : Int)) :
    ∃ v3, PartI s W0 b vp R L wr.heap.size v3 q' wh y (((wB.setCell ⟨wr.heap.size, 0, none⟩ b0).setCell ⟨wr.heap.size, 1, none⟩ b1).setCell ⟨wr.heap.size, 2, none⟩ b2) := by
  subst e0 e1 e2
  obtain ⟨v3, h3, f3, m3⟩ := hL
  have h1 := h.res.lt
  have h2 := h.who.lt
  have h4 := h.pst.lt
  have hvk : vk.ownBlock ≠ some wr.heap.size := fun e => by have := h.pst.own e; omega
  have hcA := (h.drew.alloc o).step hbR hbL ((h.drew.alloc o).pst.no mA) (Fresh.refl _ _) ((Mod.refl (Pt b vk) _).no mA)
  have hPA : Blk wA wr.heap.size [.bool false, .int .u32 0, .int .u32 0] 134 := Blk.mod (by subst ho; exact heap_alloc_new wr.drew _) mA (fun x => x)
  have hc := hcA.step hbR hbL h3 f3 m3
  have hP : Blk wB wr.heap.size [.bool false, .int .u32 0, .int .u32 0] 134 := keepL hPA (by omega) hvk m3
  have hv3 : v3.ownBlock ≠ some wr.heap.size := f3.old hvk hPA.lt
  exact ⟨v3, hc.beside (by omega) (by omega) (by omega) h.md.size hv3 _ _ _, hP.put3 _ _ _, hy, hv3, by omega, by omega, by omega, h.md.size⟩
end

set_option maxHeartbeats 4000000 in
set_option maxRecDepth 100000 in
theorem word_any (t : ByteArray) (ht : t.size ≤ 1048576) (h : PSt w b s vp p) {x : Mir.Piece} {ps : List Mir.Place} (hM : Mir.wordM t.data.toList ⟨true, 0, 0⟩ p.ps = some (x, ps)) :
    Calls Tryz.prog 82 #[.pointer (some ⟨b, 0, none⟩), .string t] w fun e w' => Gives w b s vp x { p with ps := ps } e w' := by
  have hb := h.lt
  have HOWN : Hid (∀ g, vp.ownBlock = some g → g < w.heap.size) := fun g hg => h.own (g := g) hg
  have hvR : vp.ownBlock ≠ some w.heap.size := fun e => by have := h.own e; omega
  have hbR : b ≠ w.heap.size := by omega
  have hI0 : Hid (CtxI s (w.alloc (Obj.cells #[.bool false, .int .u32 0, .int .u32 0] 134)) b vp w.heap.size (w.heap.size + 1) vp p ⟨true, 0, 0⟩ ((w.alloc (Obj.cells #[.bool false, .int .u32 0, .int .u32 0] 134)).alloc (Obj.cells #[.bool true, .int .u32 0, .int .u32 0] 134))) :=
    ⟨(h.alloc _).alloc _, Fresh.refl _ _, (Mod.refl _ _).alloc _, new2_0 w _ _, new2_1 w _ _, ⟨by decide, by decide⟩, hvR, fun e => by have := h.own e; omega⟩
  have hRL : w.heap.size ≠ w.heap.size + 1 := by omega
  have hbL : b ≠ w.heap.size + 1 := by omega
  have hw0L : (w.alloc (Obj.cells #[.bool false, .int .u32 0, .int .u32 0] 134)).heap.size ≤ w.heap.size + 1 := by simp
  obtain ⟨l, hl⟩ : ∃ l, l = t.data.toList := ⟨_, rfl⟩
  rw [← hl] at hM
  have HSZ : Hid (t.size = l.length) := by show t.size = l.length; rw [hl, data_len]
  have HG : Hid (∀ (i : Nat) (h : i < t.size), l[i]? = some t[i]) := fun i h => by rw [hl]; exact Lib.data_getElem? t i h
  have HM : Hid (Mir.wordM l ⟨true, 0, 0⟩ p.ps = some (x, ps)) := hM
  clear hM h hl
  go_enter Tryz.func82, Tryz.ntmps82
  go_wp2_with fail
  generalize hW0 : w.alloc (Obj.cells #[.bool false, .int .u32 0, .int .u32 0] 134) = W0 at hI0 hw0L
  have HW1 : Hid (w.alloc (Obj.cells #[.bool false, .int .u32 0, .int .u32 0] 134) = W0) := hW0
  clear hW0
  go_loopg [6, 7] t.size (fun g ii _ wr => ∃ (i : Nat) (vk : Value) (ps' : List Mir.Place) (wh : Mir.Piece), i ≤ t.size ∧ g = t.size - i ∧ ii = .int .i64 (i : Int) ∧ CtxI s W0 b vp w.heap.size (w.heap.size + 1) vk { p with ps := ps' } wh wr ∧ Mir.wordM (l.drop i) wh ps' = some (x, ps))
  case atStart => exact ⟨0, vp, p.ps, ⟨true, 0, 0⟩, by omega, by omega, rfl, by rw [← HW1.out] at hI0 ⊢; exact hI0.out, HM.out⟩
  case round =>
    obtain ⟨i, vk, ps', wh, hi, hgk, rfl, hI, hw⟩ := hrel
    by_cases hlt : i < t.size
    · have hx := HG.out i hlt
      generalize hc : t[i] = c at hx
      have hli : i < l.length := by have := HSZ.out; omega
      have hdr : l.drop i = c :: l.drop (i + 1) := by
        rw [List.drop_eq_getElem_cons hli]
        rw [List.getElem?_eq_getElem hli] at hx
        cases hx; rfl
      rw [hdr, Mir.wordM] at hw
      cases ha : Mir.addM ps' (Mir.allOf [c] Mir.none4) with
      | none => rw [ha] at hw; cases hw
      | some r =>
        obtain ⟨y, ps1⟩ := r
        rw [ha] at hw
        have HW : Hid (Mir.wordM (l.drop (i + 1)) (Mir.joinM ps1 wh y).1 (Mir.joinM ps1 wh y).2 = some (x, ps)) := hw
        have HA : Hid (Mir.addM ({ p with ps := ps' } : Mir.PS).ps (Mir.allOf [c] Mir.none4) = some (y, ps1)) := ha
        have HALL : Hid (∀ wx, Calls Tryz.prog 117 #[.string (t.extract i (i + 1))] wx fun e w' => e = .returned (b4V (Mir.allOf [c] Mir.none4)) ∧ Mod No wx w') := fun wx => by
          rw [extract_one t i hlt, hc]
          exact allOf_any ⟨#[c]⟩ wx (by show (1 : Nat) ≤ _; omega)
        have HI : Hid (CtxI s W0 b vp w.heap.size (w.heap.size + 1) vk { p with ps := ps' } wh wr) := hI
        have hi1 : (i : Int) < (t.size : Int) := by omega
        have hi2 : (i : Int) + 1 ≤ (t.size : Int) := by omega
        have hi3 : (0 : Int) ≤ (i : Int) + 1 := by omega
        have hi4 : (i : Int) ≤ (i : Int) + 1 := by omega
        have hi5 : (0 : Int) ≤ (i : Int) := by omega
        have ht : ((i : Int) + 1).toNat = i + 1 := by omega
        have hwr : IntKind.i64.wrap ((i : Int) + 1) = (i : Int) + 1 := by rw [IntKind.wrap_i64]; omega
        clear hw ha hI hdr hc hx
        generalize Mir.allOf [c] Mir.none4 = ta at HA HALL
        generalize hE : t.extract i (i + 1) = E at HALL
        go_wp2_with fail
        have hbw := HI.out.pst.lt
        have HV1 : Hid (∀ k, wr.heap.size ≤ k → vk.ownBlock ≠ some k) := fun k hk e => by have := HI.out.pst.own e; omega
        go_cut [7] from 9 to 30 (fun s7 wc => ∃ P v3, s7 = .pointer (some ⟨P, 0, none⟩) ∧ PartI s W0 b vp w.heap.size (w.heap.size + 1) P v3 { p with ps := ps1 } wh y wc)
        case first =>
          go_region_with (first | (go_at_call 117; refine (HALL.out _).mono ?_; rintro e wA ⟨rfl, mA⟩) | (go_at_call 116; refine (ladd (HI.out.drew.pst.no mA) ta HA.out).mono ?_; rintro e wB ⟨rfl, hy, hL⟩) | (go_at_call 116; refine (ladd ((HI.out.drew.pst.no mA).alloc _) ta HA.out).mono ?_; rintro e wB ⟨rfl, hy, hL⟩; have zP := hL.keep (Blk.new wA [.bool false, .int .u32 0, .int .u32 0] 134) (by have := mA.size; change wr.heap.size ≤ wA.heap.size at this; omega) (HV1.out _ (by have := mA.size; change wr.heap.size ≤ wA.heap.size at this; omega)); have z0 := zP.cell 0 rfl; have z1 := zP.cell 1 rfl; have z2 := zP.cell 2 rfl; have g0 := zP.free 0; have g1 := zP.free 1; have g2 := zP.free 2) | (go_at_call 116; refine (ladd ((HI.out.drew.pst.alloc _).no mA) ta HA.out).mono ?_; rintro e wB ⟨rfl, hy, hL⟩; have zP : Blk wB wr.heap.size [.bool false, .int .u32 0, .int .u32 0] 134 := hL.keep ((Blk.new wr.drew [.bool false, .int .u32 0, .int .u32 0] 134).mod mA (fun x => x)) (by show b ≠ wr.heap.size; omega) (HV1.out _ (Nat.le_refl _)); have z0 := zP.cell 0 rfl; have z1 := zP.cell 1 rfl; have z2 := zP.cell 2 rfl; have g0 := zP.free 0; have g1 := zP.free 1; have g2 := zP.free 2))
          all_goals (try go_wp2_with fail)
          all_goals go_meet
          all_goals first
            | exact ⟨_, (PartI.late HI.out hbR hbL mA hL hy rfl rfl rfl).choose, rfl, (PartI.late HI.out hbR hbL mA hL hy rfl rfl rfl).choose_spec⟩
            | exact ⟨_, (PartI.mid HI.out hbR hbL mA rfl hL hy rfl rfl rfl).choose, rfl, (PartI.mid HI.out hbR hbL mA rfl hL hy rfl rfl rfl).choose_spec⟩
            | exact ⟨_, (PartI.early HI.out hbR hbL rfl mA hL hy rfl rfl rfl).choose, rfl, (PartI.early HI.out hbR hbL rfl mA hL hy rfl rfl rfl).choose_spec⟩
        case rest =>
          obtain ⟨P, v3, rfl, hP⟩ := hcut
          have HP : Hid (PartI s W0 b vp w.heap.size (w.heap.size + 1) P v3 { p with ps := ps1 } wh y wc) := hP
          have a0 := hP.blk.cell 0 rfl
          have a1 := hP.blk.cell 1 rfl
          have a2 := hP.blk.cell 2 rfl
          have l0 := hP.ctx.who.cell 0 rfl
          have l1 := hP.ctx.who.cell 1 rfl
          have l2 := hP.ctx.who.cell 2 rfl
          clear hP HI HA HALL HV1
          go_wp2_with fail
          go_region_with (go_at_call 85; refine (ljoin HP.out.ctx.drew.pst HP.out.ctx.ok HP.out.ok).mono ?_; rintro e w5 ⟨rfl, h5, m5⟩; have zL := keepL HP.out.ctx.drew.who (fun e => hbL e.symm) HP.out.ctx.nL m5; have z0 := zL.cell 0 rfl; have z1 := zL.cell 1 rfl; have z2 := zL.cell 2 rfl; have g0 := zL.free 0; have g1 := zL.free 1; have g2 := zL.free 2)
          all_goals
            have HI5 : Hid (CtxI s W0 b vp w.heap.size (w.heap.size + 1) v3 { p with ps := (Mir.joinM ps1 wh y).2 } wh w5) := HP.out.ctx.drew.step hbR hbL h5 (Fresh.refl _ _) m5
            have HRO : Hid (POk (Mir.joinM ps1 wh y).1) := join_ok HP.out.ctx.ok HP.out.ok
            clear h5 m5 zL a0 a1 a2 l0 l1 l2 HP
            generalize Mir.joinM ps1 wh y = rr at HI5 HW HRO ⊢
            go_wp2
            go_roundg (t.size - (i + 1))
            case measure => omega
            case rel => exact ⟨i + 1, v3, rr.2, rr.1, by omega, rfl, by go_num, HI5.out.put hbL hRL hw0L HRO.out rfl rfl rfl, HW.out⟩
    · have hw : Mir.wordM [] wh ps' = some (x, ps) := by
        have e : l.drop i = [] := List.drop_of_length_le (by have := HSZ.out; omega)
        rw [e] at hw; exact hw
      simp only [Mir.wordM, Option.some.injEq, Prod.mk.injEq] at hw
      obtain ⟨rfl, rfl⟩ := hw
      have HI : Hid (CtxI s W0 b vp w.heap.size (w.heap.size + 1) vk { p with ps := ps' } wh wr) := hI
      have HLD : Hid (Led (w.alloc (Obj.cells #[.bool false, .int .u32 0, .int .u32 0] 134)) wr b s vp { p with ps := ps' }) := by rw [HW1.out]; exact ⟨vk, hI.pst, hI.fr, hI.md⟩
      have l0 := hI.who.cell 0 rfl
      have l1 := hI.who.cell 1 rfl
      have l2 := hI.who.cell 2 rfl
      have z0 := hI.res.cell 0 rfl
      have z1 := hI.res.cell 1 rfl
      have z2 := hI.res.cell 2 rfl
      have g0 := hI.res.free 0
      have g1 := hI.res.free 1
      have g2 := hI.res.free 2
      have hlt2 : ¬ (i : Int) < (t.size : Int) := by omega
      clear hI
      go_wp2
      exact bodyPost_ret (v := .agg #[.bool wh.e, .int .u32 (wh.f : Int), .int .u32 (wh.l : Int)]) (by simp [results, Tryz.results82, go_sem, z0, z1, z2]) rfl ⟨rfl, HI.out.ok, HLD.out.fin hb HOWN.out _ _ _⟩
end
end Go.Proofs.YtmbapmbpnnaanabGreatDoor
