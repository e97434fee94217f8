import Derived.Test.YtmbapmbpnnaanabGreatDoorNF
namespace Go.Proofs.YtmbapmbpnnaanabGreatDoor.M3
open Go.Proofs.YtmbapmbpnnaanabGreatDoor.M2
def goOnGo (on : List Int) (i : Nat) (h0 h1 : List UInt8) : List Stp → List Fnd → List Nat → Option (List Fnd × List Nat)
  | [], found, last => some (found, last)
  | b :: bs, found, last =>
    if (h0 ++ b.s0).length ≤ 100000 ∧ (h1 ++ b.s1).length ≤ 100000 then
      match addF on found last b.tt ((h0 ++ b.s0).drop (Mir.common (h0 ++ b.s0) (h1 ++ b.s1))) ((h1 ++ b.s1).drop (Mir.common (h0 ++ b.s0) (h1 ++ b.s1))) (i : Int) b.l with
      | none => none
      | some (found, last) => goOnGo on i h0 h1 bs found last
    else none
def goOn (R : GG) (i : Nat) (found : List Fnd) (last : List Nat) : Option (List Fnd × List Nat) :=
  match found[i]? with
  | none => none
  | some f => match R.first[f.pair]?, R.first[f.pair + 1]? with
    | some a, some b => if a ≤ b ∧ b ≤ R.g.steps.length ∧ b ≤ 1000000 ∧ found.length ≤ 200000 ∧ R.first.length ≤ 200000 then goOnGo R.on i f.h0 f.h1 ((R.g.steps.take b).drop a) found last else none
    | _, _ => none
end Go.Proofs.YtmbapmbpnnaanabGreatDoor.M3
namespace Go.Proofs.YtmbapmbpnnaanabGreatDoor
open Go.RowKit
attribute [local go_sem ↓] Go.wp_at_zero Go.wp_at_succ

theorem common_le2 : ∀ (a b : List UInt8), Mir.common a b ≤ b.length
  | [], _ => by simp [Mir.common]
  | _ :: _, [] => by simp [Mir.common]
  | x :: v, y :: w => by
    rw [Mir.common]
    have := common_le2 v w
    split <;> simp <;> omega
theorem str_cut (x : List UInt8) (c n : Nat) (hn : n = x.length) : (⟨x.toArray⟩ : ByteArray).extract c n = ⟨(x.drop c).toArray⟩ := by
  apply ext_data
  rw [extract_data]
  subst hn
  exact List.take_of_length_le (by simp)
theorem goOn_spec {R : M3.GG} {i : Nat} {found : List M2.Fnd} {last : List Nat} {r : List M2.Fnd × List Nat} (h : M3.goOn R i found last = some r) : ∃ f a b, found[i]? = some f ∧ R.first[f.pair]? = some a ∧ R.first[f.pair + 1]? = some b ∧ a ≤ b ∧ b ≤ R.g.steps.length ∧ b ≤ 1000000 ∧ found.length ≤ 200000 ∧ R.first.length ≤ 200000 ∧ M3.goOnGo R.on i f.h0 f.h1 ((R.g.steps.take b).drop a) found last = some r := by
  unfold M3.goOn at h
  split at h
  · cases h
  · rename_i f hf
    split at h
    · rename_i a b ha hb
      split at h
      · rename_i hc
        exact ⟨f, a, b, hf, ha, hb, hc.1, hc.2.1, hc.2.2.1, hc.2.2.2.1, hc.2.2.2.2, h⟩
      · cases h
    · cases h
theorem goOnGo_step {on : List Int} {i : Nat} {h0 h1 : List UInt8} {b : M2.Stp} {bs : List M2.Stp} {found : List M2.Fnd} {last : List Nat} {r : List M2.Fnd × List Nat} (h : M3.goOnGo on i h0 h1 (b :: bs) found last = some r) : (h0 ++ b.s0).length ≤ 100000 ∧ (h1 ++ b.s1).length ≤ 100000 ∧ ∃ f2 l2, M3.addF on found last b.tt ((h0 ++ b.s0).drop (Mir.common (h0 ++ b.s0) (h1 ++ b.s1))) ((h1 ++ b.s1).drop (Mir.common (h0 ++ b.s0) (h1 ++ b.s1))) (i : Int) b.l = some (f2, l2) ∧ M3.goOnGo on i h0 h1 bs f2 l2 = some r := by
  rw [M3.goOnGo] at h
  split at h
  · rename_i hc
    split at h
    · cases h
    · rename_i f2 l2 ha
      exact ⟨hc.1, hc.2, f2, l2, ha, h⟩
  · cases h

set_option maxHeartbeats 1600000 in
set_option maxRecDepth 100000 in
theorem goOn_any (w : World) (v : M2.View) (base S : Nat) (ka kw kh kd vp c5 vn vs vf vo fo la : Value) (R : M3.GG) (found : List M2.Fnd) (last : List Nat) (h : SG v base S ka kw kh kd vp c5 vn vs vf vo fo la R found last w) (i : Nat) {found' : List M2.Fnd} {last' : List Nat} (hM : M3.goOn R i found last = some (found', last')) :
    Calls Tryz.prog 67 #[.pointer (some ⟨S, 0, none⟩), .int .i64 (i : Int)] w fun e w' => e = .returned (.tuple #[]) ∧ ∃ fo', SAc w v base S ka kw kh kd vp c5 vn vs vf vo fo fo' la R found' last' w' := by
  obtain ⟨f, a, b, hf, ha, hb, hab, hbl, hb6, hfl, hvl, hgo⟩ := goOn_spec hM
  obtain ⟨FN, hFN⟩ : ∃ F, F = found.length := ⟨_, rfl⟩
  obtain ⟨VN, hVN⟩ : ∃ F, F = R.first.length := ⟨_, rfl⟩
  obtain ⟨SN, hSN⟩ : ∃ F, F = R.g.steps.length := ⟨_, rfl⟩
  have hk : i < FN := by rw [hFN]; exact (List.getElem?_eq_some_iff.1 hf).1
  have hpv : f.pair + 1 < VN := by rw [hVN]; exact (List.getElem?_eq_some_iff.1 hb).1
  obtain ⟨gf, fC, evf, hgf, -⟩ := h.rfo.form (by omega)
  obtain ⟨gv, vC, evv, -, -⟩ := h.fi.form (by omega)
  obtain ⟨sA, sC, evs, hsC, -⟩ := h.sp.open (n := SN) hSN.symm
  rw [← hFN] at evf hfl
  rw [← hVN] at evv hvl
  rw [← hSN] at hbl
  have hrf := h.rfo
  rw [evf] at hrf
  have hrv := h.fi
  rw [evv] at hrv
  obtain ⟨pr, hpr⟩ : ∃ p, p = f.pair := ⟨_, rfl⟩
  obtain ⟨XA, hXA⟩ : ∃ X, X = (⟨f.h0.toArray⟩ : ByteArray) := ⟨_, rfl⟩
  obtain ⟨XB, hXB⟩ : ∃ X, X = (⟨f.h1.toArray⟩ : ByteArray) := ⟨_, rfl⟩
  rw [← hpr] at ha hb hpv
  have x0 : w.cell? ⟨gf, i * 6, none⟩ = some (.int .i64 (pr : Int)) := by rw [hpr]; exact hrf.cell i 0 hf rfl
  have x1 : w.cell? ⟨gf, i * 6 + 1, none⟩ = some (.string XA) := by rw [hXA]; exact hrf.cell i 1 hf rfl
  have x2 : w.cell? ⟨gf, i * 6 + 2, none⟩ = some (.string XB) := by rw [hXB]; exact hrf.cell i 2 hf rfl
  have x3 : w.cell? ⟨gf, i * 6 + 3, none⟩ = some (.int .i64 f.fr) := hrf.cell i 3 hf rfl
  have x4 : w.cell? ⟨gf, i * 6 + 4, none⟩ = some (.int .i64 (f.l : Int)) := hrf.cell i 4 hf rfl
  have x5 : w.cell? ⟨gf, i * 6 + 5, none⟩ = some (.int .i64 f.before) := hrf.cell i 5 hf rfl
  have k10 := h.blk.cell 10 rfl
  rw [evf] at k10
  have HI : Hid (SG v base S ka kw kh kd vp c5 vn vs vf vo fo la R found last w) := h
  have HE : Hid (fo = .slice (some ⟨gf, 0, none⟩) FN fC ∧ vf = .slice (some ⟨gv, 0, none⟩) VN vC ∧ vs = .slice sA SN sC ∧ SN = R.g.steps.length ∧ XA = (⟨f.h0.toArray⟩ : ByteArray) ∧ XB = (⟨f.h1.toArray⟩ : ByteArray)) := ⟨evf, evv, evs, hSN, hXA, hXB⟩
  have HAB : Hid (R.first[pr]? = some a ∧ R.first[pr + 1]? = some b) := ⟨ha, hb⟩
  have HGO : Hid (M3.goOnGo R.on i f.h0 f.h1 ((R.g.steps.take b).drop a) found last = some (found', last')) := hgo
  have hki : (i : Int) < (FN : Int) := by omega
  have hki0 : (0 : Int) ≤ (i : Int) := by omega
  clear h hM hf ha hb hgo hrf hrv evf evv evs hFN hVN hSN hpr hXA hXB
  go_enter Tryz.func67, Tryz.ntmps67
  go_wp2_with fail
  have HW1 : Hid (SG v base S ka kw kh kd vp c5 vn vs vf vo fo la R found last (w.alloc (Obj.cells #[.int .i64 (pr : Int), .string XA, .string XB, .int .i64 f.fr, .int .i64 (f.l : Int), .int .i64 f.before] 224)) ∧ Blk (w.alloc (Obj.cells #[.int .i64 (pr : Int), .string XA, .string XB, .int .i64 f.fr, .int .i64 (f.l : Int), .int .i64 f.before] 224)) w.heap.size [.int .i64 (pr : Int), .string XA, .string XB, .int .i64 f.fr, .int .i64 (f.l : Int), .int .i64 f.before] 224 ∧ Mod No w (w.alloc (Obj.cells #[.int .i64 (pr : Int), .string XA, .string XB, .int .i64 f.fr, .int .i64 (f.l : Int), .int .i64 f.before] 224))) := ⟨HI.out.no ((Mod.refl _ _).alloc _), heap_alloc_new w _, (Mod.refl _ _).alloc _⟩
  generalize w.alloc (Obj.cells #[.int .i64 (pr : Int), .string XA, .string XB, .int .i64 f.fr, .int .i64 (f.l : Int), .int .i64 f.before] 224) = W1 at HW1 ⊢
  obtain ⟨FB, hFB⟩ : ∃ BX, BX = w.heap.size := ⟨_, rfl⟩
  have HFB : Hid (FB = w.heap.size) := hFB
  rw [← hFB] at HW1 ⊢
  clear hFB x0 x1 x2 x3 x4 x5 k10
  have b0 := HW1.out.2.1.cell 0 rfl
  have k7 := HW1.out.1.blk.cell 7 rfl
  have k8 := HW1.out.1.blk.cell 8 rfl
  rw [HE.out.2.2.1] at k7
  rw [HE.out.2.1] at k8
  have cA : W1.cell? ⟨gv, pr, none⟩ = some (.int .i64 (a : Int)) := by have := HW1.out.1.fi; rw [HE.out.2.1] at this; exact InE.cell this HAB.out.1
  have cB : W1.cell? ⟨gv, pr + 1, none⟩ = some (.int .i64 (b : Int)) := by have := HW1.out.1.fi; rw [HE.out.2.1] at this; exact InE.cell this HAB.out.2
  have hp1 : (pr : Int) < (VN : Int) := by omega
  have hp2 : (pr : Int) + 1 < (VN : Int) := by omega
  have hp3 : (0 : Int) ≤ (pr : Int) + 1 := by omega
  have hp4 : ((pr : Int) + 1).toNat = pr + 1 := by omega
  have habi : (a : Int) ≤ (b : Int) := by omega
  have hbci : (b : Int) ≤ (sC : Int) := by omega
  go_quiet (fail)
  have HW2 : Hid (SAc (W1.drewN nq) v base S ka kw kh kd vp c5 vn vs vf vo fo fo la R found last (W1.drewN nq) ∧ Blk (W1.drewN nq) FB [.int .i64 (pr : Int), .string XA, .string XB, .int .i64 f.fr, .int .i64 (f.l : Int), .int .i64 f.before] 224 ∧ Mod No w (W1.drewN nq)) := ⟨⟨HW1.out.1.no ((Mod.refl _ _).drewN _), Mod.refl _ _, Fresh.refl _ _⟩, HW1.out.2.1.drewN _, HW1.out.2.2.drewN _⟩
  generalize W1.drewN nq = W2 at HW2 ⊢
  clear HW1 b0 k7 k8 cA cB hp1 hp2 hp3 hp4 habi hbci
  obtain ⟨AD, hAD⟩ : ∃ A, A = (if sC = a then sA else Option.map (fun x => x.add (a * 5)) sA) := ⟨_, rfl⟩
  obtain ⟨D, hD⟩ : ∃ D, D = b - a := ⟨_, rfl⟩
  rw [← hAD, ← hD]
  have HST : Hid (((R.g.steps.take b).drop a).length = D ∧ ∀ j, j < D → ∃ gs s, sA = some ⟨gs, 0, none⟩ ∧ AD = some ⟨gs, a * 5, none⟩ ∧ R.g.steps[a + j]? = some s ∧ (R.g.steps.take b).drop a = (R.g.steps.take b).drop a ∧ ((R.g.steps.take b).drop a).drop j = s :: ((R.g.steps.take b).drop a).drop (j + 1)) := by
    have hl : ((R.g.steps.take b).drop a).length = D := by
      rw [List.length_drop, List.length_take, ← HE.out.2.2.2.1]; omega
    refine ⟨hl, fun j hj => ?_⟩
    obtain ⟨gs, cc, e1, -, -⟩ := HI.out.sp.form (by rw [← HE.out.2.2.2.1]; omega)
    rw [HE.out.2.2.1] at e1
    injection e1 with e1 e2 e3
    refine ⟨gs, R.g.steps[a + j]'(by rw [← HE.out.2.2.2.1]; omega), e1, ?_, List.getElem?_eq_getElem _, rfl, ?_⟩
    · rw [hAD, if_neg (by omega), e1]
      show some ((⟨gs, 0, none⟩ : Addr).add (a * 5)) = _
      rw [addr_add]
    · rw [List.drop_eq_getElem_cons (by rw [hl]; exact hj)]
      congr 1
      simp
  obtain ⟨sts, hsts⟩ : ∃ s, s = (R.g.steps.take b).drop a := ⟨_, rfl⟩
  rw [← hsts] at HST HGO
  have hDb : D ≤ 1000000 := by omega
  clear hAD hD hsts
  go_wp2_with fail
  go_loopg [45] D (fun gh v45 wr => ∃ (j : Nat) (fo1 : Value) (f1 : List M2.Fnd) (l1 : List Nat), j ≤ D ∧ gh = D - j ∧ v45 = .int .i64 (j : Int) ∧ M3.goOnGo R.on i f.h0 f.h1 (sts.drop j) f1 l1 = some (found', last') ∧ SAc W2 v base S ka kw kh kd vp c5 vn vs vf vo fo fo1 la R f1 l1 wr)
  case atStart => exact ⟨0, fo, found, last, by omega, by omega, rfl, HGO.out, HW2.out.1⟩
  case round =>
    clear HGO
    obtain ⟨j, fo1, f1, l1, hjD, hgk, rfl, hgo, hI⟩ := hrel
    have HI1 : Hid (SAc W2 v base S ka kw kh kd vp c5 vn vs vf vo fo fo1 la R f1 l1 wr) := hI
    by_cases hlt : j < D
    · obtain ⟨gs, st, esA, eAD, hst, -, hdr⟩ := HST.out.2 j hlt
      subst eAD
      subst esA
      rw [hdr] at hgo
      obtain ⟨hx5, hy5, f2, l2, hadd, hnx⟩ := goOnGo_step hgo
      have hrs := hI.sg.sp
      rw [HE.out.2.2.1] at hrs
      obtain ⟨YA, hYA⟩ : ∃ X, X = (⟨st.s0.toArray⟩ : ByteArray) := ⟨_, rfl⟩
      obtain ⟨YB, hYB⟩ : ∃ X, X = (⟨st.s1.toArray⟩ : ByteArray) := ⟨_, rfl⟩
      have eo : ∀ c, (a + j) * 5 + c = a * 5 + j * 5 + c := fun c => by rw [Nat.add_mul]
      have x0 : wr.cell? ⟨gs, a * 5 + j * 5, none⟩ = some (.int .i64 (st.fr : Int)) := by have h := hrs.cell (a + j) 0 hst rfl; exact (eo 0) ▸ h
      have x1 : wr.cell? ⟨gs, a * 5 + j * 5 + 1, none⟩ = some (.int .i64 (st.tt : Int)) := by have h := hrs.cell (a + j) 1 hst rfl; exact (eo 1) ▸ h
      have x2 : wr.cell? ⟨gs, a * 5 + j * 5 + 2, none⟩ = some (.int .i64 (st.l : Int)) := by have h := hrs.cell (a + j) 2 hst rfl; exact (eo 2) ▸ h
      have x3 : wr.cell? ⟨gs, a * 5 + j * 5 + 3, none⟩ = some (.string YA) := by have h := hrs.cell (a + j) 3 hst rfl; rw [hYA]; exact (eo 3) ▸ h
      have x4 : wr.cell? ⟨gs, a * 5 + j * 5 + 4, none⟩ = some (.string YB) := by have h := hrs.cell (a + j) 4 hst rfl; rw [hYB]; exact (eo 4) ▸ h
      have hBF : Blk wr FB [.int .i64 (pr : Int), .string XA, .string XB, .int .i64 f.fr, .int .i64 (f.l : Int), .int .i64 f.before] 224 := HW2.out.2.1.mod hI.md (by
        rintro (e | e | e)
        · exact HW2.out.2.1.diff HW2.out.1.sg.blk (by decide) e
        · have h1 := HI.out.rfo.lt e; have h2 := HFB.out; omega
        · exact HW2.out.2.1.apart HW2.out.1.sg.rla (by decide) e)
      have B1 := hBF.cellA 1 rfl
      have B2 := hBF.cellA 2 rfl
      obtain ⟨x, hx⟩ : ∃ x, x = f.h0 ++ st.s0 := ⟨_, rfl⟩
      obtain ⟨y, hy⟩ : ∃ x, x = f.h1 ++ st.s1 := ⟨_, rfl⟩
      rw [← hx, ← hy] at hadd
      rw [← hx] at hx5
      rw [← hy] at hy5
      have hXY : XA ++ YA = (⟨x.toArray⟩ : ByteArray) := by rw [HE.out.2.2.2.2.1, hYA, str_cat, hx]
      have hXY2 : XB ++ YB = (⟨y.toArray⟩ : ByteArray) := by rw [HE.out.2.2.2.2.2, hYB, str_cat, hy]
      have hs1 : XA.size + YA.size = x.length := by rw [HE.out.2.2.2.2.1, hYA, str_size, str_size, hx, List.length_append]
      have hs2 : XB.size + YB.size = y.length := by rw [HE.out.2.2.2.2.2, hYB, str_size, str_size, hy, List.length_append]
      have hcat : ¬ 9223372036854775807 < XA.size + YA.size := by omega
      have hcat2 : ¬ 9223372036854775807 < XB.size + YB.size := by omega
      obtain ⟨c, hc⟩ : ∃ c, c = Mir.common x y := ⟨_, rfl⟩
      rw [← hc] at hadd
      have hcl : c ≤ x.length ∧ c ≤ y.length := by rw [hc]; exact ⟨common_le x y, common_le2 x y⟩
      have hcm : ∀ wx, Calls Tryz.prog 79 #[.string (XA ++ YA), .string (XB ++ YB)] wx fun e w' => e = .returned (.int .i64 (c : Int)) ∧ ∃ n, w' = wx.drewN n := fun wx => by
        rw [hXY, hXY2, hc]
        exact common_any ⟨x.toArray⟩ ⟨y.toArray⟩ wx (by rw [str_size]; omega) (by rw [str_size]; omega)
      have hji : (j : Int) < (D : Int) := by omega
      have hj0 : (0 : Int) ≤ (j : Int) := by omega
      have hc1 : c ≤ XA.size + YA.size := by omega
      have hc2 : c ≤ XB.size + YB.size := by omega
      have hc1i : (c : Int) ≤ (XA.size : Int) + (YA.size : Int) := by omega
      have hc2i : (c : Int) ≤ (XB.size : Int) + (YB.size : Int) := by omega
      have HXY : Hid (XA ++ YA = (⟨x.toArray⟩ : ByteArray) ∧ XB ++ YB = (⟨y.toArray⟩ : ByteArray) ∧ XA.size + YA.size = x.length ∧ XB.size + YB.size = y.length) := ⟨hXY, hXY2, hs1, hs2⟩
      have HADD : Hid (M3.addF R.on f1 l1 st.tt (x.drop c) (y.drop c) (i : Int) st.l = some (f2, l2)) := hadd
      have HNX : Hid (M3.goOnGo R.on i f.h0 f.h1 (sts.drop (j + 1)) f2 l2 = some (found', last')) := hnx
      clear hI hgo hdr hrs hst hBF hYA hYB hXY hXY2 hs1 hs2 hx hy hadd hnx hcl hc eo
      go_wp2_with fail
      refine (hcm _).mono ?_
      rintro e w3 ⟨rfl, nn, rfl⟩
      go_wp2_with fail
      have HI4 : Hid (SAc W2 v base S ka kw kh kd vp c5 vn vs vf vo fo fo1 la R f1 l1 ((wr.alloc (Obj.cells #[.int .i64 (st.fr : Int), .int .i64 (st.tt : Int), .int .i64 (st.l : Int), .string YA, .string YB] 229)).drewN nn) ∧ Blk ((wr.alloc (Obj.cells #[.int .i64 (st.fr : Int), .int .i64 (st.tt : Int), .int .i64 (st.l : Int), .string YA, .string YB] 229)).drewN nn) wr.heap.size [.int .i64 (st.fr : Int), .int .i64 (st.tt : Int), .int .i64 (st.l : Int), .string YA, .string YB] 229) := ⟨HI1.out.no (((Mod.refl _ _).alloc _).drewN _), heap_alloc_new wr _⟩
      generalize (wr.alloc (Obj.cells #[.int .i64 (st.fr : Int), .int .i64 (st.tt : Int), .int .i64 (st.l : Int), .string YA, .string YB] 229)).drewN nn = W4 at HI4 ⊢
      clear hcm x0 x1 x2 x3 x4 B1 B2
      have q1 := HI4.out.2.cell 1 rfl
      have q2 := HI4.out.2.cell 2 rfl
      have H56 : Hid (∀ wx, Mod No W4 wx → Calls Tryz.prog 102 #[.pointer (some ⟨S, 0, none⟩), .agg #[.int .i64 (st.tt : Int), .string ((XA ++ YA).extract c (XA.size + YA.size)), .string ((XB ++ YB).extract c (XB.size + YB.size)), .int .i64 (i : Int), .int .i64 (st.l : Int), .int .i64 0]] wx fun e w' => e = .returned (.tuple #[]) ∧ ∃ fo', SG v base S ka kw kh kd vp c5 vn vs vf vo fo' la R f2 l2 w' ∧ Fresh wx fo1 fo' ∧ Mod (Ad S fo1 la) wx w') := by
        intro wx hm
        rw [HXY.out.1, HXY.out.2.1, str_cut x c _ HXY.out.2.2.1, str_cut y c _ HXY.out.2.2.2]
        exact sadd_any wx v base S ka kw kh kd vp c5 vn vs vf vo fo1 la R f1 l1 (HI4.out.1.sg.no hm) st.tt (x.drop c) (y.drop c) (i : Int) st.l HADD.out
      go_region_with (go_at_call 102; refine (H56.out _ ((Mod.refl _ _).drew)).mono ?_; rintro e w5 ⟨rfl, fo2, hS5, hf5, hm5⟩)
      all_goals
        have HI6 : Hid (SAc W2 v base S ka kw kh kd vp c5 vn vs vf vo fo fo2 la R f2 l2 w5) := (HI4.out.1.no ((Mod.refl _ _).drew)).add hS5 hf5 hm5
        clear q1 q2 hS5 hf5 hm5 H56 HI4
        go_wp2
        go_roundg (D - (j + 1))
        case measure => omega
        case rel => exact ⟨j + 1, fo2, f2, l2, by omega, rfl, by go_num, HNX.out, HI6.out⟩
    · have hj2 : j = D := by omega
      have e1 : sts.drop j = [] := List.drop_of_length_le (by rw [HST.out.1]; omega)
      rw [e1] at hgo
      have HG : Hid (f1 = found' ∧ l1 = last') := by cases hgo; exact ⟨rfl, rfl⟩
      have hji : ¬ (j : Int) < (D : Int) := by omega
      clear hI hgo e1 hgk hj2
      go_wp2
      go_end0
      have hI := HI1.out
      rw [HG.out.1, HG.out.2] at hI
      refine ⟨rfl, fo1, hI.sg, (HW2.out.2.2.more (S := Ad S fo la) (fun _ _ e => e.elim)).trans hI.md, fun q hq => ?_⟩
      rcases hI.ff q hq with e | e
      · exact Or.inl e
      · exact Or.inr (by have := HW2.out.2.2.size; omega)
end Go.Proofs.YtmbapmbpnnaanabGreatDoor
namespace Go.Proofs.YtmbapmbpnnaanabGreatDoor
open Go.RowKit
attribute [local go_sem ↓] Go.wp_at_zero Go.wp_at_succ

set_option maxHeartbeats 1600000 in
set_option maxRecDepth 100000 in
theorem at_any (w : World) (T O E : ByteArray) (i : Nat) (hT : T.size ≤ 10000000) (hO : O.size ≤ 10000000) (hi : i ≤ 100000000) :
    Calls Tryz.prog 159 #[.agg #[.string T, .string O, .string E], .int .i64 (i : Int)] w fun e w' => e = .returned (.int .u8 (M2.wat ⟨T.data.toList, O.data.toList, E.data.toList⟩ i : Int)) ∧ Mod No w w' := by
  by_cases h1 : i < T.size
  · have h1i : (i : Int) < (T.size : Int) := by omega
    have h1j : (0 : Int) ≤ (i : Int) := by omega
    go_enter Tryz.func159, Tryz.ntmps159
    go_wp2
    go_ret
    refine ⟨wrap_ret ?_, (Mod.refl _ _).alloc _⟩
    have hg : T.data.toList[i]? = some T[i] := at_some h1
    unfold M2.wat
    rw [if_pos (by simpa using h1), List.getD_eq_getElem?_getD, hg]
    rfl
  · have h1i : ¬ (i : Int) < (T.size : Int) := by omega
    by_cases h2 : O.size = 0
    · have h2i : (O.size : Int) = 0 := by omega
      go_enter Tryz.func159, Tryz.ntmps159
      go_wp2
      go_ret
      refine ⟨wrap_ret ?_, (Mod.refl _ _).alloc _⟩
      unfold M2.wat
      have h3 : (O.data.toList : List UInt8).isEmpty = true := by
        rw [List.isEmpty_iff_length_eq_zero, data_len]; exact h2
      rw [if_neg (by simpa using h1), if_pos h3]
      rfl
    · have h2i : ((O.size : Int) == 0) = false := by rw [beq_eq_false_iff_ne]; omega
      go_enter Tryz.func159, Tryz.ntmps159
      go_wp2_with fail
      have HW1 : Hid (Mod No w (w.alloc (Obj.cells #[.string T, .string O, .string E] 258)) ∧ Blk (w.alloc (Obj.cells #[.string T, .string O, .string E] 258)) w.heap.size [.string T, .string O, .string E] 258) := ⟨(Mod.refl _ _).alloc _, heap_alloc_new w _⟩
      generalize w.alloc (Obj.cells #[.string T, .string O, .string E] 258) = W1 at HW1 ⊢
      have b0 := HW1.out.2.cell 0 rfl
      have b1 := HW1.out.2.cell 1 rfl
      obtain ⟨d, hd⟩ : ∃ d, d = i - T.size := ⟨_, rfl⟩
      obtain ⟨m, hm⟩ : ∃ m, m = d % O.size := ⟨_, rfl⟩
      have hmO : m < O.size := by rw [hm]; exact Nat.mod_lt _ (by omega)
      have hw1 : IntKind.i64.wrap ((i : Int) - (T.size : Int)) = (d : Int) := by rw [IntKind.wrap_i64]; omega
      have hw2 : ((d : Int)).tmod (O.size : Int) = (m : Int) := by rw [hm]; rfl
      have hmi : (m : Int) < (O.size : Int) := by omega
      have hm0 : (0 : Int) ≤ (m : Int) := by omega
      have HM : Hid (m = (i - T.size) % O.size) := by show m = (i - T.size) % O.size; rw [← hd]; exact hm
      clear hd hm
      go_quiet (fail)
      go_wp2
      go_ret
      refine ⟨wrap_ret ?_, HW1.out.1.drewN _⟩
      unfold M2.wat
      have h3 : (O.data.toList : List UInt8).isEmpty = false := by
        rw [Bool.eq_false_iff]; intro h; rw [List.isEmpty_iff_length_eq_zero, data_len] at h; exact h2 h
      have hg : O.data.toList[m]? = some O[m] := at_some hmO
      rw [if_neg (by simpa using h1), if_neg (by rw [h3]; simp)]
      simp only [data_len]
      rw [← HM.out, List.getD_eq_getElem?_getD, hg]
      rfl
end Go.Proofs.YtmbapmbpnnaanabGreatDoor
