import Derived.Test.YtmbapmbpnnaanabGreatDoorOG
import Derived.Test.YtmbapmbpnnaanabGreatDoorOK
import Derived.Test.YtmbapmbpnnaanabGreatDoorOI
namespace Go.Proofs.YtmbapmbpnnaanabGreatDoor
open Go.RowKit
attribute [local go_sem ↓] Go.wp_at_zero Go.wp_at_succ

theorem lot_all : ∀ i, i < 15 → lotAt i = true
  | 0, _ => lot0
  | 1, _ => lot1
  | 2, _ => lot2
  | 3, _ => lot3
  | 4, _ => lot4
  | 5, _ => lot5
  | 6, _ => lot6
  | 7, _ => lot7
  | 8, _ => lot8
  | 9, _ => lot9
  | 10, _ => lot10
  | 11, _ => lot11
  | 12, _ => lot12
  | 13, _ => lot13
  | 14, _ => lot14
  | n + 15, h => absurd h (by omega)
theorem lot_spec {x : ByteArray × Nat × ByteArray} (h : lotB x = true) : ∃ r : List M2.ESt × Nat × Nat, (∀ wx, Calls Tryz.prog 12 #[.string x.1, .int .i64 200] wx fun e w' => CPost r wx e w') ∧ r.2.2 = x.2.1 ∧ (x.2.1 = 0 → 0 < r.1.length ∧ r.1.length ≤ 200 ∧ Tx.Within r.1 ∧ (Tx.textM r.1).length ≤ 1048576 ∧ x.2.2 = (⟨(Tx.textM r.1).toArray⟩ : ByteArray)) := by
  unfold lotB at h
  split at h
  · cases h
  · rename_i r hr
    simp only [Bool.and_eq_true, Bool.or_eq_true, decide_eq_true_eq, List.all_eq_true] at h
    obtain ⟨⟨h1, h2⟩, h3⟩ := h
    refine ⟨r, fun wx => compile_any wx x.1 h2 200 (by omega) (by omega) hr, h1, fun h0 => ?_⟩
    rcases h3 with h3 | ⟨⟨⟨⟨h3, h4⟩, h5⟩, h6⟩, h7⟩
    · exact absurd h0 h3
    · exact ⟨h3, h4, fun q hq t ht => h5 q hq t ht, h6, ext_data (by rw [h7])⟩
theorem known_any (w : World) (k : Int) (h0 : -9223372036854775808 ≤ k) (h1 : k ≤ 9223372036854775807) : Calls Tryz.prog 10 #[.int .i64 k] w fun e w' => e = .returned (.bool true) ∧ Mod No w w' :=
  known_walk w k h0 h1 fun x hx => by
    obtain ⟨i, hi, he⟩ := List.mem_iff_getElem.1 hx
    have h15 : i < 15 := hi
    have hl := lot_all i h15
    unfold lotAt at hl
    rw [List.getElem?_eq_getElem hi, he] at hl
    exact lot_spec hl
theorem law_any (w : World) (k : Int) (h0 : -9223372036854775808 ≤ k) (h1 : k ≤ 9223372036854775807) : Calls Tryz.prog 5 #[.int .i64 k] w fun e w' => e = .returned (.bool true) ∧ Mod No w w' := by
  have h4 := known_any w k h0 h1
  go_enter Tryz.func5, Tryz.ntmps5
  go_wp2_with fail
  refine h4.mono ?_
  rintro e w1 ⟨rfl, m1⟩
  clear h4
  go_wp2_with fail
  go_ret
  exact ⟨rfl, m1⟩
theorem known_card : Rows.KnownCardSaid := card_of law_any
#print axioms known_card
end Go.Proofs.YtmbapmbpnnaanabGreatDoor
