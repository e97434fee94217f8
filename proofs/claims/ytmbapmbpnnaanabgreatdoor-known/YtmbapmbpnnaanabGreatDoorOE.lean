import Derived.Test.YtmbapmbpnnaanabGreatDoorNP
import Derived.Test.YtmbapmbpnnaanabGreatDoorOD
namespace Go.Proofs.YtmbapmbpnnaanabGreatDoor.M3
open Go.Proofs.YtmbapmbpnnaanabGreatDoor.M2
/-- What Compile answers at a limit from 1 to 200: the states, the line, the error. -/
def compile (limit : Nat) (l : List UInt8) : Option (List ESt × Nat × Nat) :=
  match Mir.readM 1000 l 0 [] with
  | none => none
  | some (rs, line, er) => if ¬ er = 0 then some ([], line, er) else
    if rs.length = 0 then none else
    match view rs with
    | none => none
    | some none => some ([], 0, 3)
    | some (some v) => match states v limit with
      | none => none
      | some (some sts) => if sts.length ≤ 1000 then some (sts, 0, 0) else none
      | some none => match find v with
        | none => none
        | some (some _) => some ([], 0, 4)
        | some none => some ([], 0, 5)
end Go.Proofs.YtmbapmbpnnaanabGreatDoor.M3
namespace Go.Proofs.YtmbapmbpnnaanabGreatDoor
open Go.RowKit
attribute [local go_sem ↓] Go.wp_at_zero Go.wp_at_succ

theorem compile_spec {limit : Nat} {l : List UInt8} {r : List M2.ESt × Nat × Nat} (h : M3.compile limit l = some r) : ∃ rs line er, Mir.readM 1000 l 0 [] = some (rs, line, er) ∧ ((¬ er = 0 ∧ r = ([], line, er)) ∨ (er = 0 ∧ 0 < rs.length ∧ ((M3.view rs = some none ∧ r = ([], 0, 3)) ∨ ∃ v, M3.view rs = some (some v) ∧ ((∃ sts, M3.states v limit = some (some sts) ∧ sts.length ≤ 1000 ∧ r = (sts, 0, 0)) ∨ (M3.states v limit = some none ∧ ((∃ x, M3.find v = some (some x) ∧ r = ([], 0, 4)) ∨ (M3.find v = some none ∧ r = ([], 0, 5)))))))) := by
  unfold M3.compile at h
  split at h
  · cases h
  · rename_i rs line er hr
    refine ⟨rs, line, er, hr, ?_⟩
    split at h
    · rename_i he
      exact Or.inl ⟨he, (Option.some.inj h).symm⟩
    · rename_i he
      split at h
      · cases h
      · rename_i hl
        refine Or.inr ⟨Decidable.not_not.1 he, by omega, ?_⟩
        split at h
        · cases h
        · rename_i hv
          exact Or.inl ⟨hv, (Option.some.inj h).symm⟩
        · rename_i v hv
          refine Or.inr ⟨v, hv, ?_⟩
          split at h
          · cases h
          · rename_i sts hs
            split at h
            · rename_i hc
              exact Or.inl ⟨sts, hs, hc, (Option.some.inj h).symm⟩
            · cases h
          · rename_i hs
            refine Or.inr ⟨hs, ?_⟩
            split at h
            · cases h
            · rename_i x hf
              exact Or.inl ⟨x, hf, (Option.some.inj h).symm⟩
            · rename_i hf
              exact Or.inr ⟨hf, (Option.some.inj h).symm⟩

theorem Mod.six {w w1 : World} (h : Mod No w w1) (v0 v1 v2 v3 v4 v5 : Value) : Mod No w ((((((w1.setCell ⟨w.heap.size, 0, none⟩ v0).setCell ⟨w.heap.size, 1, none⟩ v1).setCell ⟨w.heap.size, 2, none⟩ v2).setCell ⟨w.heap.size, 3, none⟩ v3).setCell ⟨w.heap.size, 4, none⟩ v4).setCell ⟨w.heap.size, 5, none⟩ v5) :=
  (((((h.setCell (a := ⟨w.heap.size, 0, none⟩) (fun e => absurd e (Nat.lt_irrefl _)) _).setCell (a := ⟨w.heap.size, 1, none⟩) (fun e => absurd e (Nat.lt_irrefl _)) _).setCell (a := ⟨w.heap.size, 2, none⟩) (fun e => absurd e (Nat.lt_irrefl _)) _).setCell (a := ⟨w.heap.size, 3, none⟩) (fun e => absurd e (Nat.lt_irrefl _)) _).setCell (a := ⟨w.heap.size, 4, none⟩) (fun e => absurd e (Nat.lt_irrefl _)) _).setCell (a := ⟨w.heap.size, 5, none⟩) (fun e => absurd e (Nat.lt_irrefl _)) _
theorem Mach.six {w1 : World} {b m : Nat} {sts : List M2.ESt} {cs : List Value} (h : Mach w1 m sts) (hb : Blk w1 b cs 42) (v0 v1 v2 v3 v4 v5 : Value) : Mach ((((((w1.setCell ⟨b, 0, none⟩ v0).setCell ⟨b, 1, none⟩ v1).setCell ⟨b, 2, none⟩ v2).setCell ⟨b, 3, none⟩ v3).setCell ⟨b, 4, none⟩ v4).setCell ⟨b, 5, none⟩ v5) m sts := by
  obtain ⟨v, h1, h2⟩ := h
  have hm : Mod (fun k => k = b) w1 ((((((w1.setCell ⟨b, 0, none⟩ v0).setCell ⟨b, 1, none⟩ v1).setCell ⟨b, 2, none⟩ v2).setCell ⟨b, 3, none⟩ v3).setCell ⟨b, 4, none⟩ v4).setCell ⟨b, 5, none⟩ v5) := ((((((Mod.refl (fun k => k = b) _).setCell (a := ⟨b, 0, none⟩) (fun _ => rfl) _).setCell (a := ⟨b, 1, none⟩) (fun _ => rfl) _).setCell (a := ⟨b, 2, none⟩) (fun _ => rfl) _).setCell (a := ⟨b, 3, none⟩) (fun _ => rfl) _).setCell (a := ⟨b, 4, none⟩) (fun _ => rfl) _).setCell (a := ⟨b, 5, none⟩) (fun _ => rfl) _
  exact ⟨v, h1.mod hm (h1.diff hb (by decide)), h2.mod hm (fun g hg e => hb.apart h2 (by decide) (by rw [hg, e]))⟩

set_option maxHeartbeats 1600000 in
set_option maxRecDepth 100000 in
theorem compile_any (w : World) (s : ByteArray) (hs : s.size ≤ 1048576) (limit : Nat) (hl1 : 1 ≤ limit) (hl2 : limit ≤ 200) {r : List M2.ESt × Nat × Nat} (hM : M3.compile limit s.data.toList = some r) :
    Calls Tryz.prog 12 #[.string s, .int .i64 (limit : Int)] w fun e w' => CPost r w e w' := by
  obtain ⟨rs, line, er, hread, hcase⟩ := compile_spec hM
  have H9 : Hid (∀ wx, Calls Tryz.prog 33 #[.string s] wx fun e w' => ReadPost rs line er wx e w') := fun wx => read_rules s wx hs hread
  have hli1 : ¬ (limit : Int) < 1 := by omega
  have hli2 : ¬ (200 : Int) < (limit : Int) := by omega
  clear hread hM hs
  go_enter Tryz.func12, Tryz.ntmps12
  go_wp2_with fail
  have HW1 : Hid (Mod No w (w.alloc (Obj.cells #[.int .i64 0, .string ⟨#[]⟩, .string ⟨#[]⟩, .string ⟨#[]⟩, .string ⟨#[]⟩, .int .i64 0] 42)) ∧ Blk (w.alloc (Obj.cells #[.int .i64 0, .string ⟨#[]⟩, .string ⟨#[]⟩, .string ⟨#[]⟩, .string ⟨#[]⟩, .int .i64 0] 42)) w.heap.size ref0 42) := ⟨(Mod.refl _ _).alloc _, heap_alloc_new w _⟩
  generalize w.alloc (Obj.cells #[.int .i64 0, .string ⟨#[]⟩, .string ⟨#[]⟩, .string ⟨#[]⟩, .string ⟨#[]⟩, .int .i64 0] 42) = W1 at HW1 ⊢
  refine (H9.out _).mono ?_
  rintro e w2 ⟨m2, vr, prs, rfl, hprs, hru, hr4⟩
  have HW2 : Hid (Mod No w w2 ∧ Blk w2 w.heap.size ref0 42) := ⟨HW1.out.1.no m2, HW1.out.2.mod m2 (fun x => x)⟩
  clear m2 HW1 H9
  rcases hcase with ⟨he, hr⟩ | ⟨he, hl0, hcase⟩
  · have heq : ((er : Int) == 0) = false := by rw [beq_eq_false_iff_ne]; omega
    have u0 := HW2.out.2.cell 0 rfl
    have u1 := HW2.out.2.cell 1 rfl
    have u2 := HW2.out.2.cell 2 rfl
    have u3 := HW2.out.2.cell 3 rfl
    have u4 := HW2.out.2.cell 4 rfl
    have u5 := HW2.out.2.cell 5 rfl
    have f0 := HW2.out.2.free 0
    have f1 := HW2.out.2.free 1
    have f2 := HW2.out.2.free 2
    have f3 := HW2.out.2.free 3
    have f4 := HW2.out.2.free 4
    have f5 := HW2.out.2.free 5
    have HR : Hid (r = ([], line, er) ∧ ¬ er = 0) := ⟨hr, he⟩
    clear hprs hru hr4 hr he
    go_wp2
    refine bodyPost_ret (v := .tuple #[.pointer none, .agg #[.int .i64 (line : Int), .string ⟨#[]⟩, .string ⟨#[]⟩, .string ⟨#[]⟩, .string ⟨#[]⟩, .int .i64 0], .int .i64 (er : Int)]) (by simp [results, Tryz.results12, go_sem, u0, u1, u2, u3, u4, u5]) rfl ?_
    rw [HR.out.1]
    exact ⟨HW2.out.1.six _ _ _ _ _ _, Or.inr ⟨HR.out.2, _, _, _, _, _, rfl⟩⟩
  · subst he
    have hp0 : 0 < prs.length := by rw [← List.length_map (f := Prod.fst), hprs]; exact hl0
    have hp4 : prs.length ≤ 4 := by rw [← List.length_map (f := Prod.fst), hprs]; exact hr4
    have H10 : Hid (∀ res, M3.view rs = some res → Calls Tryz.prog 34 #[vr] w2 fun e w' => NPost res w2 e w') := fun res hv => newView_any w2 _ vr prs hru hp4 hp0 (by rw [hprs]; exact hv)
    clear hprs hru hr4 hl0 hp0 hp4
    rcases hcase with ⟨hv, hr⟩ | ⟨v, hv, hcase⟩
    · have h10 := H10.out _ hv
      have HR : Hid (r = ([], 0, 3)) := hr
      clear hv H10 hr
      go_wp2_with fail
      refine h10.mono ?_
      rintro e w3 ⟨m3, rfl⟩
      have HW4 : Hid (Mod No w w3 ∧ Blk w3 w.heap.size ref0 42) := ⟨HW2.out.1.no m3, HW2.out.2.mod m3 (fun x => x)⟩
      have u0 := HW4.out.2.cellA 0 rfl
      have u1 := HW4.out.2.cellA 1 rfl
      have u2 := HW4.out.2.cellA 2 rfl
      have u3 := HW4.out.2.cellA 3 rfl
      have u4 := HW4.out.2.cellA 4 rfl
      have u5 := HW4.out.2.cellA 5 rfl
      have f0 := HW4.out.2.freeA 0
      have f1 := HW4.out.2.freeA 1
      have f2 := HW4.out.2.freeA 2
      have f3 := HW4.out.2.freeA 3
      have f4 := HW4.out.2.freeA 4
      have f5 := HW4.out.2.freeA 5
      have hwn : ¬ w.heap.size = w3.heap.size := by have := HW4.out.2.lt; omega
      clear h10 m3 HW2
      go_wp2
      refine bodyPost_ret (v := .tuple #[.pointer none, .agg #[.int .i64 0, .string ⟨#[]⟩, .string ⟨#[]⟩, .string ⟨#[]⟩, .string ⟨#[]⟩, .int .i64 0], .int .i64 3]) (by simp [results, Tryz.results12, go_sem, u0, u1, u2, u3, u4, u5]) rfl ?_
      rw [HR.out]
      exact ⟨(HW4.out.1.alloc _).six _ _ _ _ _ _, Or.inr ⟨by decide, _, _, _, _, _, rfl⟩⟩
    · have h10 := H10.out _ hv
      clear hv H10
      go_wp2_with fail
      refine h10.mono ?_
      rintro e w3 ⟨m3, ka, kw, kh, kd, rfl, hvp⟩
      obtain ⟨a1, n1, c1, e1⟩ := hvp.ah.sl
      obtain ⟨a2, n2, c2, e2⟩ := hvp.wo.sl
      obtain ⟨a3, n3, c3, e3⟩ := hvp.hi.sl
      obtain ⟨a4, n4, c4, e4⟩ := hvp.de.sl
      rw [e1, e2, e3, e4]
      obtain ⟨w4, hw4⟩ : ∃ x, w3.alloc (Obj.cells #[.slice a1 n1 c1, .slice a2 n2 c2, .slice a3 n3 c3, .slice a4 n4 c4] 90) = x := ⟨_, rfl⟩
      have hm34 : Mod No w3 w4 := by rw [← hw4]; exact (Mod.refl _ _).alloc _
      have HW4 : Hid (Mod No w w4 ∧ Blk w4 w.heap.size ref0 42 ∧ Blk w4 w3.heap.size [.slice a1 n1 c1, .slice a2 n2 c2, .slice a3 n3 c3, .slice a4 n4 c4] 90) := ⟨(HW2.out.1.no m3).no hm34, (HW2.out.2.mod m3 (fun x => x)).mod hm34 (fun x => x), by rw [← hw4]; exact heap_alloc_new w3 _⟩
      have HV : Hid (VP v w2.heap.size ka kw kh kd w4) := hvp.no hm34
      have HE : Hid (ka = .slice a1 n1 c1 ∧ kw = .slice a2 n2 c2 ∧ kh = .slice a3 n3 c3 ∧ kd = .slice a4 n4 c4) := ⟨e1, e2, e3, e4⟩
      have H11 : Hid (∀ res, M3.states v limit = some res → Calls Tryz.prog 35 #[.agg #[.slice a1 n1 c1, .slice a2 n2 c2, .slice a3 n3 c3, .slice a4 n4 c4], .int .i64 (limit : Int)] w4 fun e w' => SPost res w4 e w') := fun res hs => by
        have := states_any' w4 v _ ka kw kh kd HV.out limit (by omega) hs
        rwa [HE.out.1, HE.out.2.1, HE.out.2.2.1, HE.out.2.2.2] at this
      have y0 := HW4.out.2.2.cell 0 rfl
      have y1 := HW4.out.2.2.cell 1 rfl
      have y2 := HW4.out.2.2.cell 2 rfl
      have y3 := HW4.out.2.2.cell 3 rfl
      clear h10 m3 HW2 e1 e2 e3 e4 hvp hm34
      rcases hcase with ⟨sts, hst, hsl, hr⟩ | ⟨hst, hcase⟩
      · have h11 := H11.out _ hst
        have HR : Hid (r = (sts, 0, 0)) := hr
        have HSL : Hid (sts.length ≤ 1000) := hsl
        clear hst hr hsl H11
        go_wp2_with fail
        refine h11.mono ?_
        rintro e w5 ⟨m5, vt, rfl, hrow, -⟩
        have h12 := fromStates_any w5 vt sts hrow HSL.out
        obtain ⟨at', nt, ct, et⟩ := hrow.sl
        have HW5 : Hid (Mod No w w5 ∧ Blk w5 w.heap.size ref0 42) := ⟨HW4.out.1.no m5, HW4.out.2.1.mod m5 (fun x => x)⟩
        rw [et] at h12 ⊢
        clear h11 m5 hrow HW4 y0 y1 y2 y3 hw4 et
        go_wp2_with fail
        refine h12.mono ?_
        rintro e w6 ⟨m, rfl, hmach, m6⟩
        have HW6 : Hid (Mod No w w6 ∧ Blk w6 w.heap.size ref0 42 ∧ Mach w6 m sts) := ⟨HW5.out.1.no m6, HW5.out.2.mod m6 (fun x => x), hmach⟩
        clear h12 hmach m6 HW5
        have u0 := HW6.out.2.1.cell 0 rfl
        have u1 := HW6.out.2.1.cell 1 rfl
        have u2 := HW6.out.2.1.cell 2 rfl
        have u3 := HW6.out.2.1.cell 3 rfl
        have u4 := HW6.out.2.1.cell 4 rfl
        have u5 := HW6.out.2.1.cell 5 rfl
        have f0 := HW6.out.2.1.free 0
        have f1 := HW6.out.2.1.free 1
        have f2 := HW6.out.2.1.free 2
        have f3 := HW6.out.2.1.free 3
        have f4 := HW6.out.2.1.free 4
        have f5 := HW6.out.2.1.free 5
        go_wp2
        refine bodyPost_ret (v := .tuple #[.pointer (some ⟨m, 0, none⟩), .agg #[.int .i64 0, .string ⟨#[]⟩, .string ⟨#[]⟩, .string ⟨#[]⟩, .string ⟨#[]⟩, .int .i64 0], .int .i64 0]) (by simp [results, Tryz.results12, go_sem, u0, u1, u2, u3, u4, u5]) rfl ?_
        rw [HR.out]
        exact ⟨HW6.out.1.six _ _ _ _ _ _, Or.inl ⟨rfl, m, rfl, HW6.out.2.2.six HW6.out.2.1 _ _ _ _ _ _⟩⟩
      · have h11 := H11.out _ hst
        have H13 : Hid (∀ res wx, M3.find v = some res → Mod No w4 wx → Calls Tryz.prog 37 #[.agg #[.slice a1 n1 c1, .slice a2 n2 c2, .slice a3 n3 c3, .slice a4 n4 c4]] wx fun e w' => e = .returned (wiR res) ∧ Mod No wx w') := fun res wx hs hm => by
          have := find_any wx v _ ka kw kh kd (HV.out.no hm) hs
          rwa [HE.out.1, HE.out.2.1, HE.out.2.2.1, HE.out.2.2.2] at this
        clear hst H11
        go_wp2_with fail
        refine h11.mono ?_
        rintro e w5 ⟨m5, rfl⟩
        have HW5 : Hid (Mod No w w5 ∧ Blk w5 w.heap.size ref0 42) := ⟨HW4.out.1.no m5, HW4.out.2.1.mod m5 (fun x => x)⟩
        have hY := HW4.out.2.2.mod m5 (fun x => x)
        have H13' : Hid (∀ res, M3.find v = some res → Calls Tryz.prog 37 #[.agg #[.slice a1 n1 c1, .slice a2 n2 c2, .slice a3 n3 c3, .slice a4 n4 c4]] w5 fun e w' => e = .returned (wiR res) ∧ Mod No w5 w') := fun res hs => H13.out res w5 hs m5
        clear h11 m5 HW4 y0 y1 y2 y3 hw4 H13 HV
        have y0 := hY.cell 0 rfl
        have y1 := hY.cell 1 rfl
        have y2 := hY.cell 2 rfl
        have y3 := hY.cell 3 rfl
        clear hY
        rcases hcase with ⟨x, hf, hr⟩ | ⟨hf, hr⟩
        · have h13 := H13'.out _ hf
          have HR : Hid (r = ([], 0, 4)) := hr
          obtain ⟨S1, hS1⟩ : ∃ X, X = (⟨x.x.toArray⟩ : ByteArray) := ⟨_, rfl⟩
          obtain ⟨S2, hS2⟩ : ∃ X, X = (⟨x.y.toArray⟩ : ByteArray) := ⟨_, rfl⟩
          obtain ⟨S3, hS3⟩ : ∃ X, X = (⟨x.z1.toArray⟩ : ByteArray) := ⟨_, rfl⟩
          obtain ⟨S4, hS4⟩ : ∃ X, X = (⟨x.z2.toArray⟩ : ByteArray) := ⟨_, rfl⟩
          have hwi : wiR (some x) = .tuple #[.agg #[.string S1, .string S2, .string S3, .string S4, .int .i64 (x.c : Int)], .bool true] := by rw [hS1, hS2, hS3, hS4]; rfl
          rw [hwi] at h13
          clear hf hr H13' hwi hS1 hS2 hS3 hS4
          go_wp2_with fail
          refine h13.mono ?_
          rintro e w6 ⟨rfl, m6⟩
          obtain ⟨w7, hw7⟩ : ∃ y, w6.alloc (Obj.cells #[.string S1, .string S2, .string S3, .string S4, .int .i64 (x.c : Int)] 40) = y := ⟨_, rfl⟩
          have hm67 : Mod No w6 w7 := by rw [← hw7]; exact (Mod.refl _ _).alloc _
          have HW7 : Hid (Mod No w w7 ∧ Blk w7 w.heap.size ref0 42 ∧ Blk w7 w6.heap.size [.string S1, .string S2, .string S3, .string S4, .int .i64 (x.c : Int)] 40) := ⟨(HW5.out.1.no m6).no hm67, (HW5.out.2.mod m6 (fun x => x)).mod hm67 (fun x => x), by rw [← hw7]; exact heap_alloc_new w6 _⟩
          have z0 := HW7.out.2.2.cell 0 rfl
          have z1 := HW7.out.2.2.cell 1 rfl
          have z2 := HW7.out.2.2.cell 2 rfl
          have z3 := HW7.out.2.2.cell 3 rfl
          have z4 := HW7.out.2.2.cell 4 rfl
          have u0 := HW7.out.2.1.cell 0 rfl
          have u1 := HW7.out.2.1.cell 1 rfl
          have u2 := HW7.out.2.1.cell 2 rfl
          have u3 := HW7.out.2.1.cell 3 rfl
          have u4 := HW7.out.2.1.cell 4 rfl
          have u5 := HW7.out.2.1.cell 5 rfl
          have f0 := HW7.out.2.1.free 0
          have f1 := HW7.out.2.1.free 1
          have f2 := HW7.out.2.1.free 2
          have f3 := HW7.out.2.1.free 3
          have f4 := HW7.out.2.1.free 4
          have f5 := HW7.out.2.1.free 5
          clear h13 m6 HW5 y0 y1 y2 y3 hm67
          go_wp2_with fail
          go_region
          all_goals
            clear hw7
            go_wp2
            refine bodyPost_ret (v := .tuple #[.pointer none, .agg #[.int .i64 0, .string S1, .string S2, .string S3, .string S4, .int .i64 (x.c : Int)], .int .i64 4]) (by simp [results, Tryz.results12, go_sem, u0, u1, u2, u3, u4, u5]) rfl ?_
            rw [HR.out]
            exact ⟨(HW7.out.1.six _ _ _ _ _ _).drew, Or.inr ⟨by decide, _, _, _, _, _, rfl⟩⟩
        · have h13 := H13'.out _ hf
          have HR : Hid (r = ([], 0, 5)) := hr
          have hwi : wiR none = .tuple #[.agg #[.string ⟨#[]⟩, .string ⟨#[]⟩, .string ⟨#[]⟩, .string ⟨#[]⟩, .int .i64 0], .bool false] := rfl
          rw [hwi] at h13
          clear hf hr H13' hwi
          go_wp2_with fail
          refine h13.mono ?_
          rintro e w6 ⟨rfl, m6⟩
          have HW7 : Hid (Mod No w w6 ∧ Blk w6 w.heap.size ref0 42) := ⟨HW5.out.1.no m6, HW5.out.2.mod m6 (fun x => x)⟩
          have u0 := HW7.out.2.cellA 0 rfl
          have u1 := HW7.out.2.cellA 1 rfl
          have u2 := HW7.out.2.cellA 2 rfl
          have u3 := HW7.out.2.cellA 3 rfl
          have u4 := HW7.out.2.cellA 4 rfl
          have u5 := HW7.out.2.cellA 5 rfl
          have f0 := HW7.out.2.freeA 0
          have f1 := HW7.out.2.freeA 1
          have f2 := HW7.out.2.freeA 2
          have f3 := HW7.out.2.freeA 3
          have f4 := HW7.out.2.freeA 4
          have f5 := HW7.out.2.freeA 5
          have hwn : ¬ w.heap.size = w6.heap.size := by have := HW7.out.2.lt; omega
          clear h13 m6 HW5 y0 y1 y2 y3
          go_wp2
          refine bodyPost_ret (v := .tuple #[.pointer none, .agg #[.int .i64 0, .string ⟨#[]⟩, .string ⟨#[]⟩, .string ⟨#[]⟩, .string ⟨#[]⟩, .int .i64 0], .int .i64 5]) (by simp [results, Tryz.results12, go_sem, u0, u1, u2, u3, u4, u5]) rfl ?_
          rw [HR.out]
          exact ⟨(HW7.out.1.alloc _).six _ _ _ _ _ _, Or.inr ⟨by decide, _, _, _, _, _, rfl⟩⟩
end Go.Proofs.YtmbapmbpnnaanabGreatDoor
