import Derived.Test.YtmbapmbpnnaanabGreatKF
import Derived.Great.BuildSlice
namespace Go.Proofs.YtmbapmbpnnaanabGreat
open Go.RowKit
attribute [local go_sem ↓] Go.wp_at_zero Go.wp_at_succ

/-- The refusals, as they lie in a slice. -/
def RefE : Enc (ByteArray × Nat × Nat) := ⟨27, 3, fun x => [.string x.1, .int .i64 (x.2.1 : Int), .int .i64 (x.2.2 : Int)], fun _ => rfl⟩
def refsL : List (ByteArray × Nat × Nat) := [
  (⟨#[]⟩, 2, 0),
  (⟨#[97, 62, 98]⟩, 1, 1),
  (⟨#[97, 62, 98, 10, 10]⟩, 1, 2),
  (⟨#[10]⟩, 1, 1),
  (⟨#[97, 98, 10]⟩, 1, 1),
  (⟨#[62, 98, 10]⟩, 1, 1),
  (⟨#[97, 62, 101, 10]⟩, 1, 1),
  (⟨#[65, 62, 98, 10]⟩, 1, 1),
  (⟨#[97, 62, 69, 10]⟩, 1, 1),
  (⟨#[97, 98, 99, 100, 97, 62, 98, 10]⟩, 1, 1),
  (⟨#[97, 98, 99, 100, 62, 65, 66, 67, 68, 10]⟩, 0, 0),
  (⟨#[97, 62, 65, 66, 67, 68, 65, 10]⟩, 1, 1),
  (⟨#[97, 62, 98, 10, 98, 62, 97, 47, 40, 99, 10, 99, 62, 100, 10]⟩, 1, 2),
  (⟨#[97, 62, 98, 47, 99, 41, 10]⟩, 1, 1),
  (⟨#[97, 62, 98, 47, 42, 10]⟩, 1, 1),
  (⟨#[97, 62, 98, 47, 97, 124, 42, 10]⟩, 1, 1),
  (⟨#[97, 62, 98, 47, 99, 42, 42, 10]⟩, 0, 0),
  (⟨#[97, 62, 98, 47, 10]⟩, 0, 0),
  (⟨#[97, 62, 98, 47, 40, 41, 124, 40, 99, 124, 41, 10]⟩, 0, 0),
  (⟨#[97, 62, 98, 47, 91, 93, 10]⟩, 1, 1),
  (⟨#[97, 62, 98, 47, 91, 94, 93, 10]⟩, 1, 1),
  (⟨#[97, 62, 98, 47, 91, 98, 97, 93, 10]⟩, 1, 1),
  (⟨#[97, 62, 98, 47, 91, 97, 97, 93, 10]⟩, 1, 1),
  (⟨#[97, 62, 98, 47, 91, 97, 10]⟩, 1, 1),
  (⟨#[97, 62, 98, 47, 91, 97, 98, 99, 100, 93, 10]⟩, 0, 0),
  (⟨#[97, 62, 98, 47, 40, 40, 40, 97, 41, 41, 41, 10]⟩, 0, 0),
  (⟨#[97, 62, 98, 47, 40, 40, 40, 40, 97, 41, 41, 41, 41, 10]⟩, 1, 1),
  (⟨#[97, 62, 98, 47, 97, 98, 99, 100, 97, 98, 99, 100, 97, 98, 99, 100, 97, 98, 10]⟩, 0, 0),
  (⟨#[97, 62, 98, 47, 97, 98, 99, 100, 97, 98, 99, 100, 97, 98, 99, 100, 97, 98, 99, 10]⟩, 1, 1),
  (⟨#[97, 62, 98, 47, 97, 47, 98, 10]⟩, 1, 1),
  (⟨#[97, 62, 98, 62, 99, 10]⟩, 1, 1),
  (⟨#[97, 62, 65, 10, 98, 62, 65, 10, 99, 62, 65, 10, 100, 62, 65, 10]⟩, 0, 0),
  (⟨#[97, 62, 65, 10, 98, 62, 65, 10, 99, 62, 65, 10, 100, 62, 65, 10, 97, 62, 98, 10]⟩, 2, 0),
  (⟨#[97, 62, 65, 10, 98, 62, 65, 10, 99, 62, 65, 10, 100, 62, 65, 10, 97, 62, 101, 10]⟩, 1, 5)]
/-- The texts that are no machines. -/
def TxE : Enc ByteArray := ⟨9, 1, fun x => [.string x], fun _ => rfl⟩
def textsL : List ByteArray := [
  ⟨#[]⟩,
  ⟨#[45, 32, 66, 58, 48, 32, 98, 58, 48, 32, 99, 58, 48, 32, 100, 58, 48]⟩,
  ⟨#[45, 32, 66, 58, 48, 32, 98, 58, 48, 32, 99, 58, 48, 10]⟩,
  ⟨#[45, 32, 66, 58, 48, 32, 98, 58, 48, 32, 99, 58, 48, 32, 100, 58, 48, 32, 97, 58, 48, 10]⟩,
  ⟨#[45, 32, 66, 58, 49, 32, 98, 58, 48, 32, 99, 58, 48, 32, 100, 58, 48, 10]⟩,
  ⟨#[45, 32, 66, 58, 48, 48, 32, 98, 58, 48, 32, 99, 58, 48, 32, 100, 58, 48, 10]⟩,
  ⟨#[45, 32, 66, 58, 48, 32, 32, 98, 58, 48, 32, 99, 58, 48, 32, 100, 58, 48, 10]⟩,
  ⟨#[32, 66, 58, 48, 32, 98, 58, 48, 32, 99, 58, 48, 32, 100, 58, 48, 10]⟩,
  ⟨#[45, 32, 69, 58, 48, 32, 98, 58, 48, 32, 99, 58, 48, 32, 100, 58, 48, 10]⟩,
  ⟨#[66, 32, 66, 58, 48, 32, 66, 98, 58, 48, 32, 66, 99, 58, 48, 32, 66, 100, 58, 48, 10]⟩,
  ⟨#[45, 32, 45, 58, 49, 32, 98, 58, 48, 32, 99, 58, 48, 32, 100, 58, 48, 10, 97, 32, 97, 97, 58, 49, 32, 97, 98, 58, 48, 32, 97, 99, 58, 48, 32, 97, 100, 58, 48, 10]⟩,
  ⟨#[45, 32, 66, 58, 49, 32, 98, 58, 48, 32, 99, 58, 48, 32, 100, 58, 48, 10, 45, 32, 66, 58, 49, 32, 98, 58, 48, 32, 99, 58, 48, 32, 100, 58, 48, 10]⟩,
  ⟨#[45, 32, 66, 58, 48, 32, 98, 58, 48, 32, 99, 58, 48, 32, 100, 58, 48, 10, 97, 32, 97, 58, 48, 32, 97, 98, 58, 48, 32, 98, 99, 58, 48, 32, 97, 100, 58, 48, 10]⟩,
  ⟨#[45, 32, 97, 58, 50, 32, 98, 58, 49, 32, 99, 58, 48, 32, 100, 58, 48, 10, 45, 32, 65, 58, 49, 32, 98, 58, 48, 32, 99, 58, 48, 32, 100, 58, 48, 10, 45, 32, 97, 58, 50, 32, 66, 58, 48, 32, 99, 58, 48, 32, 100, 58, 48, 10]⟩,
  ⟨#[45, 32, 66, 58, 48, 32, 98, 58, 48, 32, 99, 58, 48, 32, 100, 58, 48, 10, 10]⟩]

set_option maxHeartbeats 4000000 in
set_option maxRecDepth 100000 in
theorem refusals_any (w : World) : Calls Tryz.prog 5 #[] w fun e w' => ∃ v, e = .returned v ∧ Row RefE w' v refsL ∧ Mod No w w' := by
  go_enter Tryz.func5, Tryz.ntmps5
  go_wp2
  go_ret
  refine ⟨_, rfl, ?_, (Mod.refl _ _).alloc _⟩
  exact Row.of_block (E := RefE) (xs := refsL) (b := w.heap.size) (heap_alloc_new w _) (by unfold maxLen; decide)

set_option maxHeartbeats 4000000 in
set_option maxRecDepth 100000 in
theorem texts_any (w : World) : Calls Tryz.prog 8 #[] w fun e w' => ∃ v, e = .returned v ∧ Row TxE w' v textsL ∧ Mod No w w' := by
  go_enter Tryz.func8, Tryz.ntmps8
  go_wp2
  go_ret
  refine ⟨_, rfl, ?_, (Mod.refl _ _).alloc _⟩
  exact Row.of_block (E := TxE) (xs := textsL) (b := w.heap.size) (heap_alloc_new w _) (by unfold maxLen; decide)

theorem pick34_any (w : World) (k : Int) (h0 : -9223372036854775808 ≤ k) (h1 : k ≤ 9223372036854775807) : Calls Tryz.prog 6 #[.int .i64 k, .int .i64 34] w fun e w' => ∃ i : Nat, i < 34 ∧ e = .returned (.int .i64 (i : Int)) ∧ Mod No w w' := by
  by_cases hk : k < 0
  · have hk2 : 0 ≤ -(k + 1) := by omega
    go_enter Tryz.func6, Tryz.ntmps6
    go_wp2
    go_ret
    have e : -((k + 1).tmod 34) = (-(k + 1)) % 34 := by rw [← Int.neg_tmod, Int.tmod_eq_emod_of_nonneg hk2]
    exact ⟨((-(k + 1)) % 34).toNat, by omega, by rw [e]; exact wrap_ret (by omega), Mod.refl _ _⟩
  · go_enter Tryz.func6, Tryz.ntmps6
    go_wp2
    go_ret
    exact ⟨(k % 34).toNat, by omega, wrap_ret (by omega), Mod.refl _ _⟩

theorem pick15_any (w : World) (k : Int) (h0 : -9223372036854775808 ≤ k) (h1 : k ≤ 9223372036854775807) : Calls Tryz.prog 6 #[.int .i64 k, .int .i64 15] w fun e w' => ∃ i : Nat, i < 15 ∧ e = .returned (.int .i64 (i : Int)) ∧ Mod No w w' := by
  by_cases hk : k < 0
  · have hk2 : 0 ≤ -(k + 1) := by omega
    go_enter Tryz.func6, Tryz.ntmps6
    go_wp2
    go_ret
    have e : -((k + 1).tmod 15) = (-(k + 1)) % 15 := by rw [← Int.neg_tmod, Int.tmod_eq_emod_of_nonneg hk2]
    exact ⟨((-(k + 1)) % 15).toNat, by omega, by rw [e]; exact wrap_ret (by omega), Mod.refl _ _⟩
  · go_enter Tryz.func6, Tryz.ntmps6
    go_wp2
    go_ret
    exact ⟨(k % 15).toNat, by omega, wrap_ret (by omega), Mod.refl _ _⟩
end Go.Proofs.YtmbapmbpnnaanabGreat
