import Derived.Test.YtmbapmbpnnaanabGreatDoorMQ
namespace Go.Proofs.YtmbapmbpnnaanabGreatDoor
open Go.RowKit
attribute [local go_sem ↓] Go.wp_at_zero Go.wp_at_succ Tryz.load159 Tryz.store159 Tryz.alloc159 Tryz.build161
attribute [local go_sem] pb_eq po_eq ag_eq cellsAt_drew allAt_drew isRow_new cells_new all_new cellsAt_alloc allAt_alloc setRow_new bc_len bc_size bc_ok isRow_bc

theorem start_step {su : M2.Sure} {k : Nat} {r : List (List UInt8)} {b R : M2.Bundle} (hr : su[k]? = some r) (h : M2.startGo (su.drop k) k b = some R) : ∃ x, r[0]? = some x ∧ k < 24 ∧ M2.startGo (su.drop (k + 1)) (k + 1) { b with held := b.held.set k x } = some R := by
  obtain ⟨h1, h2⟩ := List.getElem?_eq_some_iff.1 hr
  rw [List.drop_eq_getElem_cons h1, h2, M2.startGo] at h
  split at h
  · cases h
  · rename_i x hx
    split at h
    · rename_i hk
      exact ⟨x, hx, hk, h⟩
    · cases h
theorem BOk.setH {b : M2.Bundle} (h : BOk b) (k : Nat) (x : List UInt8) : BOk { b with held := b.held.set k x } := ⟨h.t, by simp [h.h]⟩
theorem BOk.setT {b : M2.Bundle} (h : BOk b) (k x : Nat) : BOk { b with tc := b.tc.set k x } := ⟨by simp [h.t], h.h⟩

set_option maxHeartbeats 1600000 in
set_option maxRecDepth 100000 in
theorem start_any' (w : World) (O gs n cap : Nat) (c0 c1 c2 c3 c5 : Value) (su : M2.Sure) (hO : Blk w O [c0, c1, c2, c3, .slice (some ⟨gs, 0, none⟩) n cap, c5] 154) (hs : Row SuE w (.slice (some ⟨gs, 0, none⟩) n cap) su) (hsk : SOk su n) (hn : n ≤ 24) {b : M2.Bundle} (hM : M2.startGo su 0 M2.bundle0 = some b) :
    Calls Tryz.prog 61 #[.pointer (some ⟨O, 0, none⟩)] w fun e w' => e = .returned (.agg (bc b).toArray) ∧ Mod No w w' ∧ BOk b := by
  have HO : Hid (Blk w O [c0, c1, c2, c3, .slice (some ⟨gs, 0, none⟩) n cap, c5] 154 ∧ Row SuE w (.slice (some ⟨gs, 0, none⟩) n cap) su) := ⟨hO, hs⟩
  have HS : Hid (SOk su n) := hsk
  have HM : Hid (M2.startGo (su.drop 0) 0 M2.bundle0 = some b) := hM
  have hOlt := hO.lt
  have o4 := fun A B => ((hO.alloc A).alloc B).cell 4 rfl
  clear hO hs hsk hM
  go_enter Tryz.func61, Tryz.ntmps61
  go_wp2_with fail
  clear o4
  have HI0 : Hid (Mod No w ((w.alloc (Obj.cells (bc M2.bundle0).toArray 159)).alloc (Obj.cells (bc M2.bundle0).toArray 159)) ∧ Blk ((w.alloc (Obj.cells (bc M2.bundle0).toArray 159)).alloc (Obj.cells (bc M2.bundle0).toArray 159)) w.heap.size (bc M2.bundle0) 159 ∧ Blk ((w.alloc (Obj.cells (bc M2.bundle0).toArray 159)).alloc (Obj.cells (bc M2.bundle0).toArray 159)) (w.heap.size + 1) (bc M2.bundle0) 159) := ⟨((Mod.refl _ _).alloc _).alloc _, new2_0 w _ _, new2_1 w _ _⟩
  generalize (w.alloc (Obj.cells (bc M2.bundle0).toArray 159)).alloc (Obj.cells (bc M2.bundle0).toArray 159) = W0 at HI0 ⊢
  go_loopg [10] n (fun gh v10 wr => ∃ (k : Nat) (bk : M2.Bundle), k ≤ n ∧ gh = n - k ∧ v10 = .int .i64 (k : Int) ∧ BOk bk ∧ M2.startGo (su.drop k) k bk = some b ∧ Mod No w wr ∧ Blk wr w.heap.size (bc M2.bundle0) 159 ∧ Blk wr (w.heap.size + 1) (bc bk) 159)
  case atStart => exact ⟨0, M2.bundle0, by omega, by omega, rfl, BOk.zero, HM.out, HI0.out.1, HI0.out.2.1, HI0.out.2.2⟩
  case round =>
    clear HI0 HM
    obtain ⟨k, bk, hkn, hgk, rfl, hbk, hgo, hm, hR, hB⟩ := hrel
    have HMD : Hid (Mod No w wr) := hm
    have HR : Hid (Blk wr w.heap.size (bc M2.bundle0) 159) := hR
    have HB : Hid (Blk wr (w.heap.size + 1) (bc bk) 159) := hB
    have HBK : Hid (BOk bk) := hbk
    by_cases hlt : k < n
    · obtain ⟨r, hr⟩ : ∃ r, su[k]? = some r := ⟨su[k]'(by rw [HS.out.len]; exact hlt), List.getElem?_eq_getElem _⟩
      obtain ⟨x, hx, hk24, hnext⟩ := start_step hr hgo
      have hO := HO.out.1.mod hm (fun x => x)
      have hs := HO.out.2.no hm
      have o4 := hO.cell 4 rfl
      have cx : wr.cell? ⟨gs, k * 4, none⟩ = some (.string ⟨x.toArray⟩) := hs.cell k 0 hr (su_get (by omega) hx)
      obtain ⟨y, hy⟩ : ∃ y, bk.held[k]? = some y := ⟨bk.held[k]'(by rw [hbk.h]; exact hk24), List.getElem?_eq_getElem _⟩
      have cy := hB.cell (24 + k) (bc_held hbk hy)
      have fy := hB.free (24 + k)
      have HNEXT : Hid (M2.startGo (su.drop (k + 1)) (k + 1) { bk with held := bk.held.set k x } = some b) := hnext
      have HB2 : Hid (Blk (wr.setCell ⟨w.heap.size + 1, 24 + k, none⟩ (.string ⟨x.toArray⟩)) (w.heap.size + 1) (bc { bk with held := bk.held.set k x }) 159) := by
        show Blk (wr.setCell ⟨w.heap.size + 1, 24 + k, none⟩ (.string ⟨x.toArray⟩)) (w.heap.size + 1) (bc { bk with held := bk.held.set k x }) 159
        rw [bc_setH hbk]; exact hB.set (24 + k) _
      have hki : (k : Int) < (n : Int) := by omega
      have hk2 : (k : Int) < 24 := by omega
      clear hm hR hB hbk hgo hO hs hr hx hnext hy
      go_wp2
      go_roundg (n - (k + 1))
      case measure => omega
      case rel => exact ⟨k + 1, _, by omega, rfl, by go_num, HBK.out.setH k x, HNEXT.out, HMD.out.setCell (a := ⟨w.heap.size + 1, 24 + k, none⟩) (fun e => absurd e (by simp)) _, HR.out.other (a := ⟨w.heap.size + 1, 24 + k, none⟩) (by simp) _, HB2.out⟩
    · obtain rfl : k = n := by omega
      have e1 : su.drop k = [] := List.drop_of_length_le (by rw [HS.out.len]; omega)
      rw [e1] at hgo
      have HE : Hid (bk = b) := Option.some.inj hgo
      have q1 := cellsAt_of hB.range
      rw [bc_len] at q1
      obtain ⟨q1, q3⟩ := q1
      have q2 := isRow_of hR
      rw [bc_len] at q2
      have hkk : ¬ (k : Int) < (k : Int) := by omega
      clear hm hR hB hbk hgo e1
      go_wp2
      refine bodyPost_ret (v := .agg (bc bk).toArray) (results_cell_row (p := 2) rfl _ _ w.heap.size 159 (bc bk).toArray (0, 0) _ rfl (HR.out.setRow (bc bk)) Tryz.underlying159 rfl (by simp [Tryz.size98, bc_len])) rfl ⟨by rw [HE.out], HMD.out.setRow (fun e => absurd e (by omega)) _, by rw [← HE.out]; exact HBK.out⟩

set_option maxHeartbeats 1600000 in
set_option maxRecDepth 100000 in
theorem outlook_any (w : World) (v : M2.View) (base : Nat) (ka kw kh kd : Value) (hv : VP v base ka kw kh kd w) {o : M2.Outlook} (hM : M2.outlookM v = some o) :
    Calls Tryz.prog 60 #[.agg #[ka, kw, kh, kd]] w fun e w' => Mod No w w' ∧ o.v = v ∧ ∃ vs va, e = .returned (.agg #[ka, kw, kh, kd, vs, va]) ∧ VP v base ka kw kh kd w' ∧ Row SuE w' vs o.su ∧ Row ApE w' va o.ap ∧ SOk o.su v.k.ahead.length ∧ AOk o.ap v.k.ahead.length := by
  obtain ⟨s0, s1, a1, h0, h1, h2, rfl⟩ : ∃ s0 s1 a1, M2.sure0 v v.k.words = some s0 ∧ M2.cutAll v 1000 s0 = some s1 ∧ M2.apAll v s1 1000 (List.replicate s1.length ap0) = some a1 ∧ o = ⟨v, s1, a1⟩ := by
    unfold M2.outlookM at hM
    split at hM
    · cases hM
    · rename_i s0 hs0
      split at hM
      · cases hM
      · rename_i s1 hs1
        cases hq : M2.apAll v s1 1000 (List.replicate s1.length ap0) with
        | none =>
          have hq2 : M2.apAll v s1 1000 (List.replicate s1.length [Mir.none4, Mir.none4, Mir.none4, Mir.none4]) = none := hq
          rw [hq2] at hM; cases hM
        | some a1 =>
          have hq2 : M2.apAll v s1 1000 (List.replicate s1.length [Mir.none4, Mir.none4, Mir.none4, Mir.none4]) = some a1 := hq
          rw [hq2] at hM
          exact ⟨s0, s1, a1, hs0, hs1, hq, (Option.some.inj hM).symm⟩
  obtain ⟨b1, n1, c1, e1⟩ := hv.ah.sl
  obtain ⟨b2, n2, c2, e2⟩ := hv.wo.sl
  obtain ⟨b3, n3, c3, e3⟩ := hv.hi.sl
  obtain ⟨b4, n4, c4, e4⟩ := hv.de.sl
  have HV : Hid (VP v base ka kw kh kd w) := hv
  have H0 : Hid (M2.sure0 v v.k.words = some s0 ∧ M2.cutAll v 1000 s0 = some s1 ∧ M2.apAll v s1 1000 (List.replicate s1.length ap0) = some a1) := ⟨h0, h1, h2⟩
  have HE : Hid (ka = .slice b1 n1 c1 ∧ kw = .slice b2 n2 c2 ∧ kh = .slice b3 n3 c3 ∧ kd = .slice b4 n4 c4) := ⟨e1, e2, e3, e4⟩
  clear hM hv h0 h1 h2
  rw [e1, e2, e3, e4]
  go_enter Tryz.func60, Tryz.ntmps60
  go_wp2_with fail
  have hm0 : Mod No w (((w.alloc (Obj.cells #[.slice b1 n1 c1, .slice b2 n2 c2, .slice b3 n3 c3, .slice b4 n4 c4] 90)).alloc (Obj.cells #[nilS, nilS, nilS, nilS, nilS, nilS] 154)).alloc (Obj.cells #[.slice b1 n1 c1, .slice b2 n2 c2, .slice b3 n3 c3, .slice b4 n4 c4, nilS, nilS] 154)) := (((Mod.refl _ _).alloc _).alloc _).alloc _
  have hR0 : Blk (((w.alloc (Obj.cells #[.slice b1 n1 c1, .slice b2 n2 c2, .slice b3 n3 c3, .slice b4 n4 c4] 90)).alloc (Obj.cells #[nilS, nilS, nilS, nilS, nilS, nilS] 154)).alloc (Obj.cells #[.slice b1 n1 c1, .slice b2 n2 c2, .slice b3 n3 c3, .slice b4 n4 c4, nilS, nilS] 154)) (w.heap.size + 1) [nilS, nilS, nilS, nilS, nilS, nilS] 154 := new3_1 w _ _ _
  have hO0 : OL v [] [] base (w.heap.size + 1 + 1) ka kw kh kd nilS nilS (((w.alloc (Obj.cells #[.slice b1 n1 c1, .slice b2 n2 c2, .slice b3 n3 c3, .slice b4 n4 c4] 90)).alloc (Obj.cells #[nilS, nilS, nilS, nilS, nilS, nilS] 154)).alloc (Obj.cells #[.slice b1 n1 c1, .slice b2 n2 c2, .slice b3 n3 c3, .slice b4 n4 c4, nilS, nilS] 154)) := ⟨by rw [HE.out.1, HE.out.2.1, HE.out.2.2.1, HE.out.2.2.2]; exact new3_2 w _ _ _, HV.out.no hm0, Row.nil _ _, Row.nil _ _⟩
  refine (findSure_any _ v base (w.heap.size + 1 + 1) ka kw kh kd hO0 H0.out.1 H0.out.2.1).mono ?_
  rintro e w1 ⟨rfl, vs, hF, hS⟩
  have hm1 : Mod No w w1 := hm0.trans' hF.md (fun k hk e => by omega)
  have hR1 := hR0.mod hF.md (by omega)
  have hO1 := hF.ol
  clear hm0 hR0 hO0 hF
  go_wp2_with fail
  refine (findApart_any w1 v s1 base (w.heap.size + 1 + 1) ka kw kh kd vs hO1 hS H0.out.2.2).mono ?_
  rintro e w2 ⟨rfl, va, hF, hA⟩
  have hm2 : Mod No w w2 := hm1.trans' hF.md (fun k hk e => by omega)
  have hR2 := hR1.mod hF.md (by omega)
  have hO2 := hF.ol
  obtain ⟨b5, n5, c5, e5⟩ := hO2.su.sl
  obtain ⟨b6, n6, c6, e6⟩ := hO2.ap.sl
  have HO2 : Hid (OL v s1 a1 base (w.heap.size + 1 + 1) ka kw kh kd vs va w2 ∧ Mod No w w2 ∧ Blk w2 (w.heap.size + 1) [nilS, nilS, nilS, nilS, nilS, nilS] 154 ∧ SOk s1 v.k.ahead.length ∧ AOk a1 v.k.ahead.length ∧ vs = .slice b5 n5 c5 ∧ va = .slice b6 n6 c6) := ⟨hO2, hm2, hR2, hS, hA, e5, e6⟩
  have o0 := hO2.blk.cell 0 rfl
  have o1 := hO2.blk.cell 1 rfl
  have o2 := hO2.blk.cell 2 rfl
  have o3 := hO2.blk.cell 3 rfl
  have o4 := hO2.blk.cell 4 rfl
  have o5 := hO2.blk.cell 5 rfl
  rw [e1] at o0
  rw [e2] at o1
  rw [e3] at o2
  rw [e4] at o3
  rw [e5] at o4
  rw [e6] at o5
  have z0 := hR2.cell 0 rfl
  have z1 := hR2.cell 1 rfl
  have z2 := hR2.cell 2 rfl
  have z3 := hR2.cell 3 rfl
  have z4 := hR2.cell 4 rfl
  have z5 := hR2.cell 5 rfl
  have f0 := hR2.free 0
  have f1 := hR2.free 1
  have f2 := hR2.free 2
  have f3 := hR2.free 3
  have f4 := hR2.free 4
  have f5 := hR2.free 5
  clear hm1 hR1 hO1 hF hm2 hR2 hO2 hS hA e5 e6 e1 e2 e3 e4
  go_wp2
  refine bodyPost_ret (v := .agg #[.slice b1 n1 c1, .slice b2 n2 c2, .slice b3 n3 c3, .slice b4 n4 c4, .slice b5 n5 c5, .slice b6 n6 c6]) (by simp [results, Tryz.results60, go_sem, z0, z1, z2, z3, z4, z5]) rfl ?_
  obtain ⟨hO, hm, hR, hS, hA, e5, e6⟩ := HO2.out
  have hm9 : Mod (fun q => q = w.heap.size + 1) w2 ((((((w2.setCell ⟨w.heap.size + 1, 0, none⟩ (.slice b1 n1 c1)).setCell ⟨w.heap.size + 1, 1, none⟩ (.slice b2 n2 c2)).setCell ⟨w.heap.size + 1, 2, none⟩ (.slice b3 n3 c3)).setCell ⟨w.heap.size + 1, 3, none⟩ (.slice b4 n4 c4)).setCell ⟨w.heap.size + 1, 4, none⟩ (.slice b5 n5 c5)).setCell ⟨w.heap.size + 1, 5, none⟩ (.slice b6 n6 c6)) := ((((((Mod.refl (fun q => q = w.heap.size + 1) w2).setCell (a := ⟨w.heap.size + 1, 0, none⟩) (fun _ => rfl) _).setCell (a := ⟨w.heap.size + 1, 1, none⟩) (fun _ => rfl) _).setCell (a := ⟨w.heap.size + 1, 2, none⟩) (fun _ => rfl) _).setCell (a := ⟨w.heap.size + 1, 3, none⟩) (fun _ => rfl) _).setCell (a := ⟨w.heap.size + 1, 4, none⟩) (fun _ => rfl) _).setCell (a := ⟨w.heap.size + 1, 5, none⟩) (fun _ => rfl) _
  have key : ∀ {α : Type} {E : Enc α} {v : Value} {xs : List α}, Row E w2 v xs → E.T ≠ 154 → Row E _ v xs := fun hr ht => hr.mod hm9 (fun g hg e => hR.apart hr (fun e2 => ht e2.symm) (by rw [hg, e]))
  have hv := hO.vp
  refine ⟨hm.trans' hm9 (fun k hk e => by omega), trivial, vs, va, ?_, ?_, key hO.su (by decide), key hO.ap (by decide), hS, hA⟩
  · rw [e5, e6]
  · have := (⟨hv.ok, hv.kok, hv.n24, hv.nh, key hv.ah (by decide), key hv.wo (by decide), key hv.hi (by decide), key hv.de (by decide), hv.fa, hv.fw, hv.fh, hv.fd⟩ : VP v base ka kw kh kd _)
    rwa [HE.out.1, HE.out.2.1, HE.out.2.2.1, HE.out.2.2.2] at this
end Go.Proofs.YtmbapmbpnnaanabGreatDoor
namespace Go.Proofs.YtmbapmbpnnaanabGreatDoor.M3
open Go.Proofs.YtmbapmbpnnaanabGreatDoor.M2
open Go.Proofs.YtmbapmbpnnaanabGreatDoor.Mir (R4)
def followGo (v : View) (su : Sure) (ap : Apart) (b : Bundle) (l : Nat) : List R4 → Nat → Bundle → Option Bundle
  | [], _, n => some n
  | r :: rs, k, n => match r.get l with
    | none => none
    | some before => match b.tc[before]?, b.held[before]? with
      | some tc, some h => if tc < 4 ∧ h.length ≤ 100000 then
          match estep v su before tc l k with
          | none => none
          | some (said, left) => match leastGo ap k left 10 0 with
            | none => none
            | some le => if k < 24 ∧ said.length ≤ 100000 then followGo v su ap b l rs (k + 1) ⟨n.tc.set k le, n.held.set k (h ++ said)⟩ else none
        else none
      | _, _ => none
def follow (v : View) (su : Sure) (ap : Apart) (b : Bundle) (l : Nat) : Option (List UInt8 × Bundle) :=
  match followGo v su ap b l v.k.ahead 0 bundle0 with
  | none => none
  | some n => if !(n.held.all fun x => decide (x.length ≤ 1000000)) then none else
    match dropGo (commonM (n.held.take su.length)).length su.length 0 n.held with
    | none => none
    | some h => some (commonM (n.held.take su.length), { n with held := h })
end Go.Proofs.YtmbapmbpnnaanabGreatDoor.M3
namespace Go.Proofs.YtmbapmbpnnaanabGreatDoor
open Go.RowKit
attribute [local go_sem ↓] Go.wp_at_zero Go.wp_at_succ Tryz.load159 Tryz.store159 Tryz.alloc159 Tryz.build161
theorem isRow_drew (w : World) (b n : Nat) : isRowB w.drew b n = isRowB w b n := rfl
attribute [local go_sem] isRow_drew pb_eq po_eq ag_eq cellsAt_drew allAt_drew isRow_new cells_new all_new cellsAt_alloc allAt_alloc setRow_new bc_len bc_size bc_ok isRow_bc

theorem follow_step {v : M2.View} {su : M2.Sure} {ap : M2.Apart} {b : M2.Bundle} {l k : Nat} {rs : List Mir.R4} {r : Mir.R4} {n R : M2.Bundle} (hr : rs[k]? = some r) (h : M3.followGo v su ap b l (rs.drop k) k n = some R) :
    ∃ before tc hd said left le, r.get l = some before ∧ b.tc[before]? = some tc ∧ b.held[before]? = some hd ∧ tc < 4 ∧ hd.length ≤ 100000 ∧ M2.estep v su before tc l k = some (said, left) ∧ M2.leastGo ap k left 10 0 = some le ∧ k < 24 ∧ said.length ≤ 100000 ∧ M3.followGo v su ap b l (rs.drop (k + 1)) (k + 1) ⟨n.tc.set k le, n.held.set k (hd ++ said)⟩ = some R := by
  obtain ⟨h1, h2⟩ := List.getElem?_eq_some_iff.1 hr
  rw [List.drop_eq_getElem_cons h1, h2, M3.followGo] at h
  split at h
  · cases h
  · rename_i before hb
    split at h
    · rename_i tc hd htc hhd
      split at h
      · rename_i hc
        split at h
        · cases h
        · rename_i said left hes
          split at h
          · cases h
          · rename_i le hle
            split at h
            · rename_i hk
              exact ⟨before, tc, hd, said, left, le, hb, htc, hhd, hc.1, hc.2, hes, hle, hk.1, hk.2, h⟩
            · cases h
      · cases h
    · cases h
theorem drop_step {m n k : Nat} {hs R : List (List UInt8)} (h : M2.dropGo m (n + 1) k hs = some R) : ∃ x, hs[k]? = some x ∧ m ≤ x.length ∧ M2.dropGo m n (k + 1) (hs.set k (x.drop m)) = some R := by
  rw [M2.dropGo] at h
  split at h
  · cases h
  · rename_i x hx
    split at h
    · cases h
    · exact ⟨x, hx, by omega, h⟩

theorem results_tmp_cell {P : Program} {fn : Func} {p u : Tmp} {ty : TypeId} (h : fn.results = #[.tmp u, .cell p ty]) (tmps : Array Value) (w : World) (g : Nat) (t : TypeId) (cs : Array Value) (fr : Nat × Nat) (d : TypeDesc)
    (hp : tmps.getD p undef = .pointer (some ⟨g, 0, none⟩)) (hg : w.heap[g]? = some (.cells cs t fr))
    (hu : P.underlying ty = some d) (hd : (match d with | .struct _ | .array _ _ => true | _ => false) = true) (hi : (P.info? ty).map (·.size) = some cs.size) :
    (results fn tmps).run P w = .ok (.tuple #[tmps.getD u undef, .agg cs]) w := by
  have hp' : tmps[p]?.getD undef = .pointer (some ⟨g, 0, none⟩) := by simpa using hp
  simp only [results, h]
  simp [Result.andThen, hp', asAddr, run_loadVar_row w g t ty cs fr d hg hu hd hi]
structure FI (w : World) (b nk : M2.Bundle) (wr : World) : Prop where
  box : Blk wr w.heap.size (bc b) 159
  res : Blk wr (w.heap.size + 1) (bc M2.bundle0) 159
  nx : Blk wr (w.heap.size + 1 + 1) (bc nk) 159
  md : Mod No w wr
theorem FI.no {w : World} {b nk : M2.Bundle} {wr wr' : World} (h : FI w b nk wr) (hm : Mod No wr wr') : FI w b nk wr' := ⟨h.box.mod hm (fun x => x), h.res.mod hm (fun x => x), h.nx.mod hm (fun x => x), h.md.no hm⟩
theorem FI.put {w : World} {b nk nk' : M2.Bundle} {wr : World} {j : Nat} {u : Value} (h : FI w b nk wr) (he : bc nk' = (bc nk).set j u) : FI w b nk' (wr.setCell ⟨w.heap.size + 1 + 1, j, none⟩ u) :=
  ⟨h.box.other (a := ⟨w.heap.size + 1 + 1, j, none⟩) (by simp; omega) _, h.res.other (a := ⟨w.heap.size + 1 + 1, j, none⟩) (by simp) _, by rw [he]; exact h.nx.set j u, h.md.setCell (a := ⟨w.heap.size + 1 + 1, j, none⟩) (fun e => absurd e (by simp; omega)) _⟩

set_option maxHeartbeats 1600000 in
set_option maxRecDepth 100000 in
theorem follow_any (w : World) (v : M2.View) (su : M2.Sure) (ap : M2.Apart) (base O : Nat) (ka kw kh kd : Value) (gs ga n cs ca : Nat) (hO : OL v su ap base O ka kw kh kd (.slice (some ⟨gs, 0, none⟩) n cs) (.slice (some ⟨ga, 0, none⟩) n ca) w) (hn : n = v.k.ahead.length) (hn0 : 0 < n) (hs : SOk su n) (ha : AOk ap n) (b : M2.Bundle) (hb : BOk b) (l : Nat) (hl : l < 4) {said : List UInt8} {nb : M2.Bundle} (hM : M3.follow v su ap b l = some (said, nb)) :
    Calls Tryz.prog 62 #[.pointer (some ⟨O, 0, none⟩), .agg (bc b).toArray, .int .i64 (l : Int)] w fun e w' => e = .returned (.tuple #[.string ⟨said.toArray⟩, .agg (bc nb).toArray]) ∧ Mod No w w' ∧ BOk nb := by
  obtain ⟨nf, hd', hg, hall, hdrop, hsd, hnb⟩ : ∃ nf hd', M3.followGo v su ap b l v.k.ahead 0 M2.bundle0 = some nf ∧ (∀ x ∈ nf.held, x.length ≤ 1000000) ∧ M2.dropGo (M2.commonM (nf.held.take n)).length n 0 nf.held = some hd' ∧ said = M2.commonM (nf.held.take n) ∧ nb = { nf with held := hd' } := by
    unfold M3.follow at hM
    split at hM
    · cases hM
    · rename_i nf hnf
      split at hM
      · cases hM
      · rename_i hal
        rw [hs.len] at hM
        split at hM
        · cases hM
        · rename_i h hh
          have := Option.some.inj hM
          injection this with e1 e2
          refine ⟨nf, h, hnf, ?_, hh, e1.symm, e2.symm⟩
          simp at hal
          exact hal
  have hn24 : n ≤ 24 := by rw [hn]; exact hO.vp.n24
  obtain ⟨a1, c1, e1, -, -⟩ := hO.vp.ah.open hn.symm
  obtain ⟨g1, hg1⟩ : ∃ g, a1 = some ⟨g, 0, none⟩ := by
    obtain ⟨g2, c2, h2, -⟩ := hO.vp.ah.form (by omega)
    rw [e1] at h2
    injection h2 with h2 _
    exact ⟨g2, h2⟩
  subst hg1
  have H50 : Hid (∀ (wx : World) (kind tc next : Nat) (r : List UInt8 × Nat), Mod No w wx → kind < n → tc < 4 → M2.estep v su kind tc l next = some r → Calls Tryz.prog 96 #[.pointer (some ⟨O, 0, none⟩), .int .i64 (kind : Int), .int .i64 (tc : Int), .int .i64 (l : Int), .int .i64 (next : Int)] wx fun e w' => e = .returned (.tuple #[.string ⟨r.1.toArray⟩, .int .i64 (r.2 : Int)]) ∧ Mod No wx w') := fun wx kind tc next r hm hk ht hM => estep_any wx v su ap base O ka kw kh kd _ _ (hO.no hm) (by rw [← hn]; exact hs) kind tc l next (by omega) ht hl hM
  have H51 : Hid (∀ (wx : World) (k tc r : Nat), Mod No w wx → k < n → tc < 4 → M2.leastGo ap k tc 10 0 = some r → Calls Tryz.prog 97 #[.pointer (some ⟨O, 0, none⟩), .int .i64 (k : Int), .int .i64 (tc : Int)] wx fun e w' => e = .returned (.int .i64 (r : Int)) ∧ w' = wx) := fun wx k tc r hm hk ht hM => leastE_any wx O ga n ca ap ka kw kh kd _ (hO.no hm).blk (hO.no hm).ap ha k tc hk (by omega) ht hM
  have HV : Hid (VOk v ∧ n = v.k.ahead.length) := ⟨hO.vp.ok, hn⟩
  have HO : Hid (OL v su ap base O ka kw kh kd (.slice (some ⟨gs, 0, none⟩) n cs) (.slice (some ⟨ga, 0, none⟩) n ca) w) := hO
  have HKA : Hid (ka = .slice (some ⟨g1, 0, none⟩) n c1) := e1
  have HB : Hid (BOk b) := hb
  have HG : Hid (M3.followGo v su ap b l (v.k.ahead.drop 0) 0 M2.bundle0 = some nf) := hg
  have HEND : Hid ((∀ x ∈ nf.held, x.length ≤ 1000000) ∧ M2.dropGo (M2.commonM (nf.held.take n)).length n 0 nf.held = some hd' ∧ said = M2.commonM (nf.held.take n) ∧ nb = { nf with held := hd' }) := ⟨hall, hdrop, hsd, hnb⟩
  have hOlt := hO.blk.lt
  have o0 := fun A B C => (((hO.blk.alloc A).alloc B).alloc C).cell 0 rfl
  rw [e1] at o0
  clear hO hs ha hb hM hg hall hdrop hsd hnb hn e1
  go_enter Tryz.func62, Tryz.ntmps62
  go_wp2_with fail
  clear o0
  have HI0 : Hid (FI w b M2.bundle0 (((w.alloc (Obj.cells (bc b).toArray 159)).alloc (Obj.cells (bc M2.bundle0).toArray 159)).alloc (Obj.cells (bc M2.bundle0).toArray 159))) := ⟨new3_0 w _ _ _, new3_1 w _ _ _, new3_2 w _ _ _, (((Mod.refl _ _).alloc _).alloc _).alloc _⟩
  generalize ((w.alloc (Obj.cells (bc b).toArray 159)).alloc (Obj.cells (bc M2.bundle0).toArray 159)).alloc (Obj.cells (bc M2.bundle0).toArray 159) = W0 at HI0 ⊢
  go_loopg [23] n (fun gh v23 wr => ∃ (k : Nat) (nk : M2.Bundle), k ≤ n ∧ gh = n - k ∧ v23 = .int .i64 (k : Int) ∧ BOk nk ∧ M3.followGo v su ap b l (v.k.ahead.drop k) k nk = some nf ∧ FI w b nk wr)
  case atStart => exact ⟨0, M2.bundle0, by omega, by omega, rfl, BOk.zero, HG.out, HI0.out⟩
  case round =>
    clear HI0 HG
    obtain ⟨k, nk, hkn, hgk, rfl, hbk, hgo, hI⟩ := hrel
    have HI : Hid (FI w b nk wr) := hI
    have HBK : Hid (BOk nk) := hbk
    by_cases hlt : k < n
    · obtain ⟨r, hr⟩ : ∃ r, v.k.ahead[k]? = some r := ⟨v.k.ahead[k]'(by have := HV.out.2; omega), List.getElem?_eq_getElem _⟩
      obtain ⟨before, tc, hd, sd, left, le, hbf, htc, hhd, ht4, hh5, hes, hle, hk24, hs5, hnext⟩ := follow_step hr hgo
      have hbn : before < n := by have := HV.out.1.ent r (List.mem_of_getElem? hr) l before hbf; have := HV.out.2; omega
      have hlt4 := estep_lt HV.out.1 ht4 hes
      have hra := (HO.out.no hI.md).vp.ah
      rw [HKA.out] at hra
      have r0 : wr.cell? ⟨g1, k * 4, none⟩ = some (.int .i64 (r.a : Int)) := hra.cell k 0 hr rfl
      have r1 : wr.cell? ⟨g1, k * 4 + 1, none⟩ = some (.int .i64 (r.b : Int)) := hra.cell k 1 hr rfl
      have r2 : wr.cell? ⟨g1, k * 4 + 2, none⟩ = some (.int .i64 (r.c : Int)) := hra.cell k 2 hr rfl
      have r3 : wr.cell? ⟨g1, k * 4 + 3, none⟩ = some (.int .i64 (r.d : Int)) := hra.cell k 3 hr rfl
      have rq : (wr.alloc (Obj.cells #[.int .i64 (r.a : Int), .int .i64 (r.b : Int), .int .i64 (r.c : Int), .int .i64 (r.d : Int)] 106)).cell? ⟨wr.heap.size, l, none⟩ = some (.int .i64 (before : Int)) := by
        have hb : Blk (wr.alloc (Obj.cells #[.int .i64 (r.a : Int), .int .i64 (r.b : Int), .int .i64 (r.c : Int), .int .i64 (r.d : Int)] 106)) wr.heap.size [.int .i64 (r.a : Int), .int .i64 (r.b : Int), .int .i64 (r.c : Int), .int .i64 (r.d : Int)] 106 := heap_alloc_new wr _
        refine hb.cell l ?_
        have q := r4c_get' r l hl
        rw [hbf] at q
        exact q
      have tq := hI.box.cellA before (bc_tc HB.out htc)
      have h50 := H50.out (wr.alloc (Obj.cells #[.int .i64 (r.a : Int), .int .i64 (r.b : Int), .int .i64 (r.c : Int), .int .i64 (r.d : Int)] 106)) before tc k (sd, left) (hI.md.alloc _) hbn ht4 hes
      simp only at h50 hlt4
      have HX : Hid (b.held[before]? = some hd ∧ M2.leastGo ap k left 10 0 = some le ∧ M3.followGo v su ap b l (v.k.ahead.drop (k + 1)) (k + 1) ⟨nk.tc.set k le, nk.held.set k (hd ++ sd)⟩ = some nf) := ⟨hhd, hle, hnext⟩
      have hki : (k : Int) < (n : Int) := by omega
      have hk2 : (k : Int) < 24 := by omega
      have hl4 : (l : Int) < 4 := by omega
      have hb24 : (before : Int) < 24 := by omega
      clear hI hbk hgo hra hr hbf htc hhd hes hle hnext
      go_wp2_with fail
      refine h50.mono ?_
      rintro e w2 ⟨rfl, m2⟩
      have HI2 : Hid (FI w b nk w2) := (HI.out.no ((Mod.refl _ _).alloc _)).no m2
      have h51 := H51.out w2 k left le HI2.out.md hlt hlt4 HX.out.2.1
      clear h50 m2 HI r0 r1 r2 r3 rq tq
      go_wp2_with fail
      refine h51.mono ?_
      rintro e w3 ⟨rfl, hw3⟩
      rw [hw3]
      clear h51 hw3
      obtain ⟨t0, ht0⟩ : ∃ t0, nk.tc[k]? = some t0 := ⟨nk.tc[k]'(by rw [HBK.out.t]; exact hk24), List.getElem?_eq_getElem _⟩
      obtain ⟨y0, hy0⟩ : ∃ y0, nk.held[k]? = some y0 := ⟨nk.held[k]'(by rw [HBK.out.h]; exact hk24), List.getElem?_eq_getElem _⟩
      have ct := HI2.out.nx.cell k (bc_tc HBK.out ht0)
      have ft := HI2.out.nx.free k
      have hb2 : bc { nk with tc := nk.tc.set k le } = (bc nk).set k (.int .i64 (le : Int)) := bc_setT HBK.out hk24
      have hI3 := HI2.out.put hb2
      have hB3 : BOk { nk with tc := nk.tc.set k le } := HBK.out.setT k le
      have ch := hI3.box.cell (24 + before) (bc_held HB.out HX.out.1)
      have cy := hI3.nx.cell (24 + k) (bc_held hB3 hy0)
      have fy := hI3.nx.free (24 + k)
      obtain ⟨HD, hHD⟩ : ∃ S, S = (⟨hd.toArray⟩ : ByteArray) := ⟨_, rfl⟩
      obtain ⟨SD, hSD⟩ : ∃ S, S = (⟨sd.toArray⟩ : ByteArray) := ⟨_, rfl⟩
      have hs1 : HD.size = hd.length := by rw [hHD]; exact str_size hd
      have hs2 : SD.size = sd.length := by rw [hSD]; exact str_size sd
      have HCAT : Hid (HD ++ SD = ⟨(hd ++ sd).toArray⟩) := by show HD ++ SD = _; rw [hHD, hSD, str_cat]
      have hcat : ¬ 9223372036854775807 < HD.size + SD.size := by omega
      have hI4 : FI w b ⟨nk.tc.set k le, nk.held.set k (hd ++ sd)⟩ ((w2.setCell ⟨w.heap.size + 1 + 1, k, none⟩ (.int .i64 (le : Int))).setCell ⟨w.heap.size + 1 + 1, 24 + k, none⟩ (.string ⟨(hd ++ sd).toArray⟩)) := hI3.put (bc_setH hB3)
      rw [← HCAT.out] at hI4
      have HI4 : Hid (FI w b ⟨nk.tc.set k le, nk.held.set k (hd ++ sd)⟩ ((w2.setCell ⟨w.heap.size + 1 + 1, k, none⟩ (.int .i64 (le : Int))).setCell ⟨w.heap.size + 1 + 1, 24 + k, none⟩ (.string (HD ++ SD)))) := hI4
      have HB4 : Hid (BOk ⟨nk.tc.set k le, nk.held.set k (hd ++ sd)⟩) := hB3.setH k (hd ++ sd)
      rw [← hHD] at ch
      rw [← hSD]
      obtain ⟨w4, hw4⟩ : ∃ w4, w2.setCell ⟨w.heap.size + 1 + 1, k, none⟩ (.int .i64 (le : Int)) = w4 := ⟨_, rfl⟩
      rw [hw4] at ch cy fy HI4
      clear hI3 hB3 hI4 ht0 hy0 hb2 hHD hSD
      go_wp2
      go_roundg (n - (k + 1))
      case measure => omega
      case rel => exact ⟨k + 1, _, by omega, rfl, by go_num, HB4.out, HX.out.2.2, HI4.out⟩
    · obtain rfl : k = n := by omega
      have e1 : v.k.ahead.drop k = [] := List.drop_of_length_le (by have := HV.out.2; omega)
      rw [e1] at hgo
      have hnk : nk = nf := Option.some.inj hgo
      subst hnk
      have hO2 := HO.out.no hI.md
      have o4 := hO2.blk.cell 4 rfl
      have hws : ∀ i x, (nk.held.take k)[i]? = some x → wr.cell? ⟨w.heap.size + 1 + 1, 24 + i, none⟩ = some (.string ⟨x.toArray⟩) := fun i x hx => by
        rw [List.getElem?_take] at hx
        split at hx
        · exact hI.nx.cell (24 + i) (bc_held hbk hx)
        · cases hx
      have h52 := commonE_any wr (w.heap.size + 1 + 1) 24 k 24 (nk.held.take k) hws (by rw [List.length_take, hbk.h]; omega) hn0 (by omega) (fun x hx => HEND.out.1 x (List.mem_of_mem_take hx))
      obtain ⟨sd, hsd⟩ : ∃ sd, sd = M2.commonM (nk.held.take k) := ⟨_, rfl⟩
      have HD : Hid (M2.dropGo sd.length k 0 nk.held = some hd' ∧ said = sd ∧ nb = { nk with held := hd' }) := by rw [hsd]; exact HEND.out.2
      rw [← hsd] at h52
      have HSL : Hid (∀ x ∈ nk.held, x.length ≤ 1000000) := HEND.out.1
      have hk24 : (k : Int) ≤ 24 := by omega
      have hkk : ¬ (k : Int) < (k : Int) := by omega
      clear hI hbk hgo e1 hws hO2 hsd HEND H50 H51
      go_wp2_with fail
      refine h52.mono ?_
      rintro e w2 ⟨rfl, m2⟩
      have HI2 : Hid (FI w b nk w2) := HI.out.no m2
      have hO2 := HO.out.no HI2.out.md
      have o4 := hO2.blk.cell 4 rfl
      obtain ⟨SA, hSA⟩ : ∃ S, S = (⟨sd.toArray⟩ : ByteArray) := ⟨_, rfl⟩
      have hSs : SA.size = sd.length := by rw [hSA]; exact str_size sd
      have HSA : Hid (SA = (⟨sd.toArray⟩ : ByteArray)) := hSA
      rw [← hSA]
      clear h52 m2 HI hO2 hSA
      go_wp2_with fail
      clear o4
      go_loopg [73] k (fun gh v73 wr => ∃ (q : Nat) (hs : List (List UInt8)), q ≤ k ∧ gh = k - q ∧ v73 = .int .i64 (q : Int) ∧ hs.length = 24 ∧ (∀ x ∈ hs, x.length ≤ 1000000) ∧ M2.dropGo sd.length gh q hs = some hd' ∧ FI w b { nk with held := hs } wr)
      case atStart => exact ⟨0, nk.held, by omega, by omega, rfl, HBK.out.h, HSL.out, HD.out.1, HI2.out⟩
      case round =>
        clear HI2 HSL
        obtain ⟨q, hs, hqk, hgq, rfl, hh24, hhs, hdr, hI⟩ := hrel
        have HI : Hid (FI w b { nk with held := hs } wr) := hI
        have hbq : BOk { nk with held := hs } := ⟨HBK.out.t, hh24⟩
        have HBQ : Hid (BOk { nk with held := hs } ∧ ∀ x ∈ hs, x.length ≤ 1000000) := ⟨hbq, hhs⟩
        by_cases hlt : q < k
        · obtain ⟨g, rfl⟩ : ∃ g, gk = g + 1 := ⟨gk - 1, by omega⟩
          obtain ⟨x, hx, hmx, hnext⟩ := drop_step hdr
          have hxs := hhs x (List.mem_of_getElem? hx)
          have cx := hI.nx.cell (24 + q) (bc_held hbq hx)
          have fx := hI.nx.free (24 + q)
          have HNEXT : Hid (M2.dropGo sd.length g (q + 1) (hs.set q (x.drop sd.length)) = some hd') := hnext
          have HIX : Hid (FI w b { nk with held := hs.set q (x.drop sd.length) } (wr.setCell ⟨w.heap.size + 1 + 1, 24 + q, none⟩ (.string ⟨(x.drop sd.length).toArray⟩))) := hI.put (bc_setH (b := { nk with held := hs }) hbq)
          have HHS : Hid (∀ y ∈ hs.set q (x.drop sd.length), y.length ≤ 1000000) := fun y hy => by
            rcases List.mem_or_eq_of_mem_set hy with h | h
            · exact hhs y h
            · rw [h, List.length_drop]; omega
          obtain ⟨X, hX⟩ : ∃ S, S = (⟨x.toArray⟩ : ByteArray) := ⟨_, rfl⟩
          have hXs : X.size = x.length := by rw [hX]; exact str_size x
          have HCUT : Hid (X.extract sd.length X.size = ⟨(x.drop sd.length).toArray⟩) := by show X.extract sd.length X.size = _; rw [hXs, hX]; exact str_drop x sd.length
          rw [← HCUT.out] at HIX
          rw [← hX] at cx
          have hqi : (q : Int) < (k : Int) := by omega
          have hq24 : (q : Int) < 24 := by omega
          have hmi : (SA.size : Int) ≤ (X.size : Int) := by omega
          have hmn : SA.size ≤ X.size := by omega
          have HH24 : Hid (hs.length = 24) := hh24
          clear hI hbq hhs hdr hx hnext hX hXs hh24 hxs hmx
          go_wp2
          go_roundg g
          case measure => omega
          case rel => exact ⟨q + 1, _, by omega, by omega, by go_num, by rw [List.length_set]; exact HH24.out, HHS.out, HNEXT.out, HIX.out⟩
        · obtain rfl : q = k := by omega
          obtain rfl : gk = 0 := by omega
          have HE : Hid (hs = hd') := Option.some.inj hdr
          have q1 := cellsAt_of hI.nx.range
          rw [bc_len] at q1
          obtain ⟨q1, q3⟩ := q1
          have q2 := isRow_of hI.res
          rw [bc_len] at q2
          have hkk2 : ¬ (q : Int) < (q : Int) := by omega
          clear hI hbq hhs hdr hh24 hgq hqk hgk hkn hkk2 hkk hlt
          have hkk2 : ¬ (q : Int) < (q : Int) := by omega
          go_wp2_with fail
          go_region
          all_goals
            go_wp2
            have hI2 := HI.out
            refine bodyPost_ret (v := .tuple #[.string SA, .agg (bc { nk with held := hs }).toArray]) (results_tmp_cell (p := 7) (u := 6) rfl _ _ (w.heap.size + 1) 159 (bc { nk with held := hs }).toArray (0, 0) _ rfl (hI2.res.drew.setRow (bc { nk with held := hs })) Tryz.underlying159 rfl (by simp [Tryz.size98, bc_len])) rfl ⟨?_, hI2.md.drew.setRow (fun e => absurd e (by omega)) _, ?_⟩
            · rw [HD.out.2.1, HD.out.2.2, ← HSA.out, ← HE.out]
            · rw [HD.out.2.2, ← HE.out]; exact HBQ.out.1
end Go.Proofs.YtmbapmbpnnaanabGreatDoor
