import Derived.Test.YtmbapmbpnnaanabGreatOE
import Derived.Test.YtmbapmbpnnaanabGreatSG
import Derived.Test.YtmbapmbpnnaanabGreatRC
namespace Go.Proofs.YtmbapmbpnnaanabGreat
open Go.RowKit
attribute [local go_sem ↓] Go.wp_at_zero Go.wp_at_succ

theorem Ld.good_words : Ld.fwGo [Ld.g0, Ld.g1] 1000 0 [[]] = some [[], [97]] := by decide +kernel
theorem Ld.good_delay : Ld.dmGo [Ld.g0, Ld.g1] 0 0 0 = (1, 1) := by decide +kernel
theorem Ld.good_word : ([[], [97]] : List (List UInt8))[1]? = some [97] := rfl

theorem compileLow_any (w : World) (s : ByteArray) : Calls Tryz.prog 7 #[.string s, .int .i64 0] w fun e w' => e = .returned (.tuple #[.pointer none, .agg #[.int .i64 0, .string ⟨#[]⟩, .string ⟨#[]⟩, .string ⟨#[]⟩, .string ⟨#[]⟩, .int .i64 0], .int .i64 6]) ∧ Mod No w w' := by
  go_enter Tryz.func7, Tryz.ntmps7
  go_wp2
  refine bodyPost_ret (v := .tuple #[.pointer none, .agg #[.int .i64 0, .string ⟨#[]⟩, .string ⟨#[]⟩, .string ⟨#[]⟩, .string ⟨#[]⟩, .int .i64 0], .int .i64 6]) (by simp [results, Tryz.results7, go_sem]) rfl ⟨rfl, ?_⟩
  exact (Mod.refl _ _).alloc _
theorem compileHigh_any (w : World) (s : ByteArray) : Calls Tryz.prog 7 #[.string s, .int .i64 201] w fun e w' => e = .returned (.tuple #[.pointer none, .agg #[.int .i64 0, .string ⟨#[]⟩, .string ⟨#[]⟩, .string ⟨#[]⟩, .string ⟨#[]⟩, .int .i64 0], .int .i64 6]) ∧ Mod No w w' := by
  go_enter Tryz.func7, Tryz.ntmps7
  go_wp2
  refine bodyPost_ret (v := .tuple #[.pointer none, .agg #[.int .i64 0, .string ⟨#[]⟩, .string ⟨#[]⟩, .string ⟨#[]⟩, .string ⟨#[]⟩, .int .i64 0], .int .i64 6]) (by simp [results, Tryz.results7, go_sem]) rfl ⟨rfl, ?_⟩
  exact (Mod.refl _ _).alloc _

set_option maxHeartbeats 1600000 in
set_option maxRecDepth 100000 in
/-- From the texts that are no machines on. -/
theorem refuses_walk (w : World) (k : Int) (h0 : -9223372036854775808 ≤ k) (h1 : k ≤ 9223372036854775807)
    (hC : ∀ x ∈ refsL, ∃ r : List M2.ESt × Nat × Nat, (∀ wx, Calls Tryz.prog 7 #[.string x.1, .int .i64 200] wx fun e w' => CPost r wx e w') ∧ r.2.2 = x.2.1 ∧ r.2.1 = x.2.2 ∧ (x.2.1 = 0 → x.2.2 = 0)) :
    Calls Tryz.prog 4 #[.int .i64 k] w fun e w' => e = .returned (.bool true) ∧ Mod No w w' := by
  have H6 : Hid (∀ wx, Calls Tryz.prog 6 #[.int .i64 k, .int .i64 34] wx fun e w' => ∃ i : Nat, i < 34 ∧ e = .returned (.int .i64 (i : Int)) ∧ Mod No wx w') := fun wx => pick34_any wx k h0 h1
  have H6b : Hid (∀ wx, Calls Tryz.prog 6 #[.int .i64 k, .int .i64 15] wx fun e w' => ∃ i : Nat, i < 15 ∧ e = .returned (.int .i64 (i : Int)) ∧ Mod No wx w') := fun wx => pick15_any wx k h0 h1
  have HC : Hid (∀ x ∈ refsL, ∃ r : List M2.ESt × Nat × Nat, (∀ wx, Calls Tryz.prog 7 #[.string x.1, .int .i64 200] wx fun e w' => CPost r wx e w') ∧ r.2.2 = x.2.1 ∧ r.2.1 = x.2.2 ∧ (x.2.1 = 0 → x.2.2 = 0)) := hC
  have h5 := refusals_any w
  have HL : Hid (refsL.length = 34) := rfl
  have HLT : Hid (textsL.length = 15) := rfl
  clear hC
  go_enter Tryz.func4, Tryz.ntmps4
  go_wp2_with fail
  refine h5.mono ?_
  rintro e w1 ⟨v, rfl, hrow, m1⟩
  obtain ⟨g, cap, ev, -, -⟩ := hrow.form (by rw [HL.out]; omega)
  rw [HL.out] at ev
  subst ev
  have HW1 : Hid (Row RefE w1 (.slice (some ⟨g, 0, none⟩) 34 cap) refsL ∧ Mod No w w1) := ⟨hrow, m1⟩
  clear h5 hrow m1
  go_wp2_with fail
  refine (H6.out _).mono ?_
  rintro e w2 ⟨i, hi, rfl, m2⟩
  obtain ⟨x, hx⟩ : ∃ x, refsL[i]? = some x := ⟨refsL[i]'(by rw [HL.out]; exact hi), List.getElem?_eq_getElem _⟩
  obtain ⟨⟨sts, line, er⟩, hc7, her, hln, hz⟩ := HC.out x (List.mem_of_getElem? hx)
  obtain ⟨A, E, L⟩ := x
  have hr2 := HW1.out.1.no m2
  have c0 : w2.cell? ⟨g, i * 3, none⟩ = some (.string A) := hr2.cell i 0 hx rfl
  have c1 : w2.cell? ⟨g, i * 3 + 1, none⟩ = some (.int .i64 (E : Int)) := hr2.cell i 1 hx rfl
  have c2 : w2.cell? ⟨g, i * 3 + 2, none⟩ = some (.int .i64 (L : Int)) := hr2.cell i 2 hx rfl
  have hii : (i : Int) < 34 := by omega
  have hii0 : (0 : Int) ≤ (i : Int) := by omega
  simp only at her hln hz hc7
  subst her hln
  obtain ⟨w3, hw3⟩ : ∃ y, w2.alloc (Obj.cells #[.string A, .int .i64 (er : Int), .int .i64 (line : Int)] 27) = y := ⟨_, rfl⟩
  have hm23 : Mod No w2 w3 := by rw [← hw3]; exact (Mod.refl _ _).alloc _
  have HW3 : Hid (Mod No w w3 ∧ Blk w3 w2.heap.size [.string A, .int .i64 (er : Int), .int .i64 (line : Int)] 27) := ⟨(HW1.out.2.no m2).no hm23, by rw [← hw3]; exact heap_alloc_new w2 _⟩
  have H7 : Hid (∀ wx, Calls Tryz.prog 7 #[.string A, .int .i64 200] wx fun e w' => CPost (sts, line, er) wx e w') := hc7
  have HZ : Hid (er = 0 → line = 0) := hz
  have y0 := HW3.out.2.cell 0 rfl
  clear hx hc7 hz hr2 m2 HW1 HC H6 hm23
  go_wp2_with fail
  refine (H7.out _).mono ?_
  rintro e w4 ⟨m4, hpost⟩
  have HW4 : Hid (Mod No w w4 ∧ Blk w4 w2.heap.size [.string A, .int .i64 (er : Int), .int .i64 (line : Int)] 27) := ⟨HW3.out.1.no m4, HW3.out.2.mod m4 (fun x => x)⟩
  clear HW3 m4 H7 y0 hw3 c0 c1 c2
  generalize w2.heap.size = Q at HW4 ⊢
  rcases hpost with ⟨he, m, rfl, -⟩ | ⟨he, X, Y, Z1, Z2, c, rfl⟩
  · simp only at he
    subst he
    have hl0 := HZ.out rfl
    subst hl0
    have HW5 : Hid (Mod No w (w4.alloc (Obj.cells #[.int .i64 0, .string ⟨#[]⟩, .string ⟨#[]⟩, .string ⟨#[]⟩, .string ⟨#[]⟩, .int .i64 0] 33))) := HW4.out.1.alloc _
    have Y1 := HW4.out.2.cellA 1 rfl
    have Y2 := HW4.out.2.cellA 2 rfl
    clear HZ HW4
    go_wp2_with fail
    generalize w4.alloc (Obj.cells #[.int .i64 0, .string ⟨#[]⟩, .string ⟨#[]⟩, .string ⟨#[]⟩, .string ⟨#[]⟩, .int .i64 0] 33) = w5 at HW5 ⊢
    clear Y1 Y2
    refine (texts_any w5).mono ?_
    rintro e w6 ⟨v, rfl, hrow, m6⟩
    obtain ⟨gt, capt, ev, -, -⟩ := hrow.form (by rw [HLT.out]; omega)
    rw [HLT.out] at ev
    subst ev
    have HW6 : Hid (Row TxE w6 (.slice (some ⟨gt, 0, none⟩) 15 capt) textsL ∧ Mod No w w6) := ⟨hrow, HW5.out.no m6⟩
    clear hrow m6 HW5
    go_wp2_with fail
    refine (H6b.out _).mono ?_
    rintro e w7 ⟨j, hj, rfl, m7⟩
    obtain ⟨tx, htx, hnone, htl⟩ := Ld.no_all j hj
    have ct : w7.cell? ⟨gt, j, none⟩ = some (.string tx) := by
      have := (HW6.out.1.no m7).cell j 0 htx rfl
      simpa [TxE] using this
    have hjj : (j : Int) < 15 := by omega
    have hjj0 : (0 : Int) ≤ (j : Int) := by omega
    have h9 := Ld.loadX_any tx w7 htl hnone
    have HW7 : Hid (Mod No w w7) := HW6.out.2.no m7
    clear htx hnone htl HW6 m7 H6b
    go_wp2_with fail
    refine h9.mono ?_
    rintro e w8 ⟨b8, rfl⟩
    have HW8 : Hid (Mod No w w8) := HW7.out.no (Mod.of_below b8)
    clear h9 b8 HW7 ct
    go_wp2_with fail
    refine (compileLow_any w8 _).mono ?_
    rintro e w9 ⟨rfl, m9⟩
    have HW9 : Hid (Mod No w (w9.alloc (Obj.cells #[.int .i64 0, .string ⟨#[]⟩, .string ⟨#[]⟩, .string ⟨#[]⟩, .string ⟨#[]⟩, .int .i64 0] 33))) := (HW8.out.no m9).alloc _
    clear m9 HW8
    go_wp2_with fail
    generalize w9.alloc (Obj.cells #[.int .i64 0, .string ⟨#[]⟩, .string ⟨#[]⟩, .string ⟨#[]⟩, .string ⟨#[]⟩, .int .i64 0] 33) = w10 at HW9 ⊢
    refine (compileHigh_any w10 _).mono ?_
    rintro e w11 ⟨rfl, m11⟩
    have HW11 : Hid (Mod No w (w11.alloc (Obj.cells #[.int .i64 0, .string ⟨#[]⟩, .string ⟨#[]⟩, .string ⟨#[]⟩, .string ⟨#[]⟩, .int .i64 0] 33))) := (HW9.out.no m11).alloc _
    clear m11 HW9
    go_wp2_with fail
    generalize w11.alloc (Obj.cells #[.int .i64 0, .string ⟨#[]⟩, .string ⟨#[]⟩, .string ⟨#[]⟩, .string ⟨#[]⟩, .int .i64 0] 33) = w12 at HW11 ⊢
    refine (Ld.loadX_any Ld.goodS w12 (by decide) Ld.good_load).mono ?_
    rintro e w13 ⟨b13, m2, v2, rfl, hm2, hst2⟩
    have HW13 : Hid (Mod No w w13) := HW11.out.no (Mod.of_below b13)
    have h10a := Ld.resume_any w13 m2 v2 [Ld.g0, Ld.g1] hm2 hst2 (-1) (Or.inl (by decide))
    have h10b := Ld.resume_any w13 m2 v2 [Ld.g0, Ld.g1] hm2 hst2 2 (Or.inr (by decide))
    have h11 := Ld.maxDelay_any w13 m2 v2 [Ld.g0, Ld.g1] hm2 hst2 (by decide) (by decide) Ld.good_words Ld.good_delay Ld.good_word
    clear hm2 hst2 b13 HW11
    go_wp2_with fail
    refine h10a.mono ?_
    rintro e w14 ⟨rfl, rfl⟩
    clear h10a
    go_wp2_with fail
    refine h10b.mono ?_
    rintro e w15 ⟨rfl, rfl⟩
    clear h10b
    go_wp2_with fail
    refine h11.mono ?_
    rintro e w16 ⟨rfl, m16⟩
    have HW16 : Hid (Mod No w w16) := HW13.out.no m16
    clear h11 m16 HW13
    go_wp2
    go_ret
    exact ⟨rfl, HW16.out⟩
  · simp only at he
    have heq : ((er : Int) == 0) = false := by rw [beq_eq_false_iff_ne]; omega
    have hne0 : ((er : Int) != 0) = true := by simp only [bne, heq, Bool.not_false]
    have HW5 : Hid (Mod No w (w4.alloc (Obj.cells #[.int .i64 (line : Int), .string X, .string Y, .string Z1, .string Z2, .int .i64 c] 33))) := HW4.out.1.alloc _
    have Y1 := HW4.out.2.cellA 1 rfl
    have Y2 := HW4.out.2.cellA 2 rfl
    clear HZ HW4 he
    go_wp2_with fail
    generalize w4.alloc (Obj.cells #[.int .i64 (line : Int), .string X, .string Y, .string Z1, .string Z2, .int .i64 c] 33) = w5 at HW5 ⊢
    clear Y1 Y2
    refine (texts_any w5).mono ?_
    rintro e w6 ⟨v, rfl, hrow, m6⟩
    obtain ⟨gt, capt, ev, -, -⟩ := hrow.form (by rw [HLT.out]; omega)
    rw [HLT.out] at ev
    subst ev
    have HW6 : Hid (Row TxE w6 (.slice (some ⟨gt, 0, none⟩) 15 capt) textsL ∧ Mod No w w6) := ⟨hrow, HW5.out.no m6⟩
    clear hrow m6 HW5
    go_wp2_with fail
    refine (H6b.out _).mono ?_
    rintro e w7 ⟨j, hj, rfl, m7⟩
    obtain ⟨tx, htx, hnone, htl⟩ := Ld.no_all j hj
    have ct : w7.cell? ⟨gt, j, none⟩ = some (.string tx) := by
      have := (HW6.out.1.no m7).cell j 0 htx rfl
      simpa [TxE] using this
    have hjj : (j : Int) < 15 := by omega
    have hjj0 : (0 : Int) ≤ (j : Int) := by omega
    have h9 := Ld.loadX_any tx w7 htl hnone
    have HW7 : Hid (Mod No w w7) := HW6.out.2.no m7
    clear htx hnone htl HW6 m7 H6b
    go_wp2_with fail
    refine h9.mono ?_
    rintro e w8 ⟨b8, rfl⟩
    have HW8 : Hid (Mod No w w8) := HW7.out.no (Mod.of_below b8)
    clear h9 b8 HW7 ct
    go_wp2_with fail
    refine (compileLow_any w8 _).mono ?_
    rintro e w9 ⟨rfl, m9⟩
    have HW9 : Hid (Mod No w (w9.alloc (Obj.cells #[.int .i64 0, .string ⟨#[]⟩, .string ⟨#[]⟩, .string ⟨#[]⟩, .string ⟨#[]⟩, .int .i64 0] 33))) := (HW8.out.no m9).alloc _
    clear m9 HW8
    go_wp2_with fail
    generalize w9.alloc (Obj.cells #[.int .i64 0, .string ⟨#[]⟩, .string ⟨#[]⟩, .string ⟨#[]⟩, .string ⟨#[]⟩, .int .i64 0] 33) = w10 at HW9 ⊢
    refine (compileHigh_any w10 _).mono ?_
    rintro e w11 ⟨rfl, m11⟩
    have HW11 : Hid (Mod No w (w11.alloc (Obj.cells #[.int .i64 0, .string ⟨#[]⟩, .string ⟨#[]⟩, .string ⟨#[]⟩, .string ⟨#[]⟩, .int .i64 0] 33))) := (HW9.out.no m11).alloc _
    clear m11 HW9
    go_wp2_with fail
    generalize w11.alloc (Obj.cells #[.int .i64 0, .string ⟨#[]⟩, .string ⟨#[]⟩, .string ⟨#[]⟩, .string ⟨#[]⟩, .int .i64 0] 33) = w12 at HW11 ⊢
    refine (Ld.loadX_any Ld.goodS w12 (by decide) Ld.good_load).mono ?_
    rintro e w13 ⟨b13, m2, v2, rfl, hm2, hst2⟩
    have HW13 : Hid (Mod No w w13) := HW11.out.no (Mod.of_below b13)
    have h10a := Ld.resume_any w13 m2 v2 [Ld.g0, Ld.g1] hm2 hst2 (-1) (Or.inl (by decide))
    have h10b := Ld.resume_any w13 m2 v2 [Ld.g0, Ld.g1] hm2 hst2 2 (Or.inr (by decide))
    have h11 := Ld.maxDelay_any w13 m2 v2 [Ld.g0, Ld.g1] hm2 hst2 (by decide) (by decide) Ld.good_words Ld.good_delay Ld.good_word
    clear hm2 hst2 b13 HW11
    go_wp2_with fail
    refine h10a.mono ?_
    rintro e w14 ⟨rfl, rfl⟩
    clear h10a
    go_wp2_with fail
    refine h10b.mono ?_
    rintro e w15 ⟨rfl, rfl⟩
    clear h10b
    go_wp2_with fail
    refine h11.mono ?_
    rintro e w16 ⟨rfl, m16⟩
    have HW16 : Hid (Mod No w w16) := HW13.out.no m16
    clear h11 m16 HW13
    go_wp2
    go_ret
    exact ⟨rfl, HW16.out⟩
end Go.Proofs.YtmbapmbpnnaanabGreat
