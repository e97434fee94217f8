import Derived.Test.YtmbapmbpnnaanabGreatDoorOD
import Derived.Test.YtmbapmbpnnaanabGreatDoorOF
namespace Go.Proofs.YtmbapmbpnnaanabGreatDoor
open Go.RowKit
attribute [local go_sem ↓] Go.wp_at_zero Go.wp_at_succ

set_option maxHeartbeats 1600000 in
set_option maxRecDepth 100000 in
theorem known_walk (w : World) (k : Int) (h0 : -9223372036854775808 ≤ k) (h1 : k ≤ 9223372036854775807)
    (hC : ∀ x ∈ lotsL, ∃ r : List M2.ESt × Nat × Nat, (∀ wx, Calls Tryz.prog 12 #[.string x.1, .int .i64 200] wx fun e w' => CPost r wx e w') ∧ r.2.2 = x.2.1 ∧ (x.2.1 = 0 → 0 < r.1.length ∧ r.1.length ≤ 200 ∧ Tx.Within r.1 ∧ (Tx.textM r.1).length ≤ 1048576 ∧ x.2.2 = (⟨(Tx.textM r.1).toArray⟩ : ByteArray))) :
    Calls Tryz.prog 10 #[.int .i64 k] w fun e w' => e = .returned (.bool true) ∧ Mod No w w' := by
  have H6 : Hid (∀ wx, Calls Tryz.prog 31 #[.int .i64 k, .int .i64 15] wx fun e w' => ∃ i : Nat, i < 15 ∧ e = .returned (.int .i64 (i : Int)) ∧ Mod No wx w') := fun wx => pick_any wx k h0 h1
  have HC : Hid (∀ x ∈ lotsL, ∃ r : List M2.ESt × Nat × Nat, (∀ wx, Calls Tryz.prog 12 #[.string x.1, .int .i64 200] wx fun e w' => CPost r wx e w') ∧ r.2.2 = x.2.1 ∧ (x.2.1 = 0 → 0 < r.1.length ∧ r.1.length ≤ 200 ∧ Tx.Within r.1 ∧ (Tx.textM r.1).length ≤ 1048576 ∧ x.2.2 = (⟨(Tx.textM r.1).toArray⟩ : ByteArray))) := hC
  have h5 := lots_any w
  have HL : Hid (lotsL.length = 15) := rfl
  clear hC
  go_enter Tryz.func10, Tryz.ntmps10
  go_wp2_with fail
  refine h5.mono ?_
  rintro e w1 ⟨v, rfl, hrow, m1⟩
  obtain ⟨g, cap, ev, -, -⟩ := hrow.form (by rw [HL.out]; omega)
  rw [HL.out] at ev
  subst ev
  have HW1 : Hid (Row LotE w1 (.slice (some ⟨g, 0, none⟩) 15 cap) lotsL ∧ Mod No w w1) := ⟨hrow, m1⟩
  clear h5 hrow m1
  go_wp2_with fail
  refine (H6.out _).mono ?_
  rintro e w2 ⟨i, hi, rfl, m2⟩
  obtain ⟨x, hx⟩ : ∃ x, lotsL[i]? = some x := ⟨lotsL[i]'(by rw [HL.out]; exact hi), List.getElem?_eq_getElem _⟩
  obtain ⟨⟨sts, line, er⟩, hc7, her, htx⟩ := HC.out x (List.mem_of_getElem? hx)
  obtain ⟨A, E, T⟩ := x
  have hr2 := HW1.out.1.no m2
  have c0 : w2.cell? ⟨g, i * 3, none⟩ = some (.string A) := hr2.cell i 0 hx rfl
  have c1 : w2.cell? ⟨g, i * 3 + 1, none⟩ = some (.int .i64 (E : Int)) := hr2.cell i 1 hx rfl
  have c2 : w2.cell? ⟨g, i * 3 + 2, none⟩ = some (.string T) := hr2.cell i 2 hx rfl
  have hii : (i : Int) < 15 := by omega
  have hii0 : (0 : Int) ≤ (i : Int) := by omega
  simp only at her htx hc7
  subst her
  obtain ⟨w3, hw3⟩ : ∃ y, w2.alloc (Obj.cells #[.string A, .int .i64 (er : Int), .string T] 73) = y := ⟨_, rfl⟩
  have hm23 : Mod No w2 w3 := by rw [← hw3]; exact (Mod.refl _ _).alloc _
  have HW3 : Hid (Mod No w w3 ∧ Blk w3 w2.heap.size [.string A, .int .i64 (er : Int), .string T] 73) := ⟨(HW1.out.2.no m2).no hm23, by rw [← hw3]; exact heap_alloc_new w2 _⟩
  have H7 : Hid (∀ wx, Calls Tryz.prog 12 #[.string A, .int .i64 200] wx fun e w' => CPost (sts, line, er) wx e w') := hc7
  have HTX : Hid (er = 0 → 0 < sts.length ∧ sts.length ≤ 200 ∧ Tx.Within sts ∧ (Tx.textM sts).length ≤ 1048576 ∧ T = (⟨(Tx.textM sts).toArray⟩ : ByteArray)) := htx
  have y0 := HW3.out.2.cell 0 rfl
  clear hx hc7 htx hr2 m2 HW1 HC H6 hm23
  go_wp2_with fail
  refine (H7.out _).mono ?_
  rintro e w4 ⟨m4, hpost⟩
  have HW4 : Hid (Mod No w w4 ∧ Blk w4 w2.heap.size [.string A, .int .i64 (er : Int), .string T] 73) := ⟨HW3.out.1.no m4, HW3.out.2.mod m4 (fun x => x)⟩
  clear HW3 m4 H7 y0 hw3 c0 c1 c2
  generalize w2.heap.size = Q at HW4 ⊢
  rcases hpost with ⟨he, m, rfl, hmach⟩ | ⟨he, X, Y, Z1, Z2, c, rfl⟩
  · simp only at he
    subst he
    obtain ⟨h2, h3, h4, h5, h6⟩ := HTX.out rfl
    obtain ⟨v, hb, hst⟩ := hmach
    have HW5 : Hid (Mod No w4 (w4.alloc (Obj.cells #[.int .i64 0, .string ⟨#[]⟩, .string ⟨#[]⟩, .string ⟨#[]⟩, .string ⟨#[]⟩, .int .i64 0] 42))) := (Mod.refl _ _).alloc _
    have HK : Hid (Blk w4 m [v] 103 ∧ Row Tx.StaE w4 v sts ∧ 0 < sts.length ∧ sts.length ≤ 200 ∧ Tx.Within sts ∧ (Tx.textM sts).length ≤ 1048576 ∧ T = (⟨(Tx.textM sts).toArray⟩ : ByteArray)) := ⟨hb, hst, h2, h3, h4, h5, h6⟩
    clear HTX hb hst h2 h3 h4 h5 h6
    have Y1 := HW4.out.2.cellA 1 rfl
    go_wp2_with fail
    generalize w4.alloc (Obj.cells #[.int .i64 0, .string ⟨#[]⟩, .string ⟨#[]⟩, .string ⟨#[]⟩, .string ⟨#[]⟩, .int .i64 0] 42) = w5 at HW5 ⊢
    have H8 : Hid (∀ wx, Mod No w5 wx → Calls Tryz.prog 15 #[.pointer (some ⟨m, 0, none⟩)] wx fun e w' => e = .returned (.string T) ∧ Mod No wx w') := fun wx hm => by
      obtain ⟨hb, hst, h2, h3, h4, h5, h6⟩ := HK.out
      rw [h6]
      exact (Tx.text_any m v sts wx (((hb.mod HW5.out (fun x => x)).mod hm (fun x => x)).cell 0 rfl) ((hst.no HW5.out).no hm) h2 h3 h4 h5).mono fun _ _ ⟨h, hb⟩ => ⟨h, Mod.of_below hb⟩
    have HQ5 : Hid (Blk w5 Q [.string A, .int .i64 0, .string T] 73 ∧ Mod No w w5) := ⟨HW4.out.2.mod HW5.out (fun x => x), HW4.out.1.no HW5.out⟩
    have hne : Nonempty (After w5) := ⟨⟨w5, Mod.refl _ _⟩⟩
    have e2 : ∀ x : After w5, x.val.cell? ⟨Q, 2, none⟩ = some (.string T) := fun x => (HQ5.out.1.mod x.property (fun y => y)).cell 2 rfl
    clear Y1 HK HW4 HW5
    refine wp_region_calm (by kernel_rfl) (by kernel_rfl) ?_
    repeat (quiet_step (exact Calls.calm (H8.out _ (Subtype.property _))))
    refine wpQuiet_nil ?_
    rintro _ ⟨x, rfl⟩
    go_wp2
    go_ret
    exact ⟨by simp, HQ5.out.2.no x.property⟩
  · simp only at he
    have heq : ((er : Int) == 0) = false := by rw [beq_eq_false_iff_ne]; omega
    have HW5 : Hid (Mod No w4 (w4.alloc (Obj.cells #[.int .i64 (line : Int), .string X, .string Y, .string Z1, .string Z2, .int .i64 c] 42))) := (Mod.refl _ _).alloc _
    have Y1 := HW4.out.2.cellA 1 rfl
    have hne0 : ((er : Int) != 0) = true := by simp only [bne, heq, Bool.not_false]
    clear HTX he
    go_wp2_with fail
    generalize w4.alloc (Obj.cells #[.int .i64 (line : Int), .string X, .string Y, .string Z1, .string Z2, .int .i64 c] 42) = w5 at HW5 ⊢
    clear Y1
    go_quiet (fail)
    all_goals
      go_wp2
      go_ret
      exact ⟨by simp, (HW4.out.1.no HW5.out).drewN _⟩
end Go.Proofs.YtmbapmbpnnaanabGreatDoor
