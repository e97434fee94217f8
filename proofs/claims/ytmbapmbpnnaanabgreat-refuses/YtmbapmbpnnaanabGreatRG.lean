import Derived.Test.YtmbapmbpnnaanabGreatRD
import Derived.Test.YtmbapmbpnnaanabGreatRE
import Derived.Test.YtmbapmbpnnaanabGreatRF
namespace Go.Proofs.YtmbapmbpnnaanabGreat
open Go.RowKit
attribute [local go_sem ↓] Go.wp_at_zero Go.wp_at_succ

theorem ref_spec {x : ByteArray × Nat × Nat} (h : refB x = true) : ∃ r : List M2.ESt × Nat × Nat, (∀ wx, Calls Tryz.prog 7 #[.string x.1, .int .i64 200] wx fun e w' => CPost r wx e w') ∧ r.2.2 = x.2.1 ∧ r.2.1 = x.2.2 ∧ (x.2.1 = 0 → x.2.2 = 0) := by
  unfold refB at h
  split at h
  · cases h
  · rename_i r hr
    simp only [Bool.and_eq_true, Bool.or_eq_true, decide_eq_true_eq] at h
    obtain ⟨⟨⟨h1, h2⟩, h3⟩, h4⟩ := h
    refine ⟨r, fun wx => compile_any wx x.1 h3 200 (by omega) (by omega) hr, h1, h2, fun h0 => ?_⟩
    rcases h4 with h4 | h4
    · exact absurd h0 h4
    · exact h4
theorem refuses_any (w : World) (k : Int) (h0 : -9223372036854775808 ≤ k) (h1 : k ≤ 9223372036854775807) : Calls Tryz.prog 4 #[.int .i64 k] w fun e w' => e = .returned (.bool true) ∧ Mod No w w' :=
  refuses_walk w k h0 h1 fun x hx => by
    obtain ⟨i, hi, he⟩ := List.mem_iff_getElem.1 hx
    have h34 : i < 34 := hi
    have hl := ref_all i h34
    unfold refAt at hl
    rw [List.getElem?_eq_getElem hi, he] at hl
    exact ref_spec hl
theorem law_any (w : World) (k : Int) (h0 : -9223372036854775808 ≤ k) (h1 : k ≤ 9223372036854775807) : Calls Tryz.prog 3 #[.int .i64 k] w fun e w' => e = .returned (.bool true) ∧ Mod No w w' := by
  have h4 := refuses_any w k h0 h1
  go_enter Tryz.func3, Tryz.ntmps3
  go_wp2_with fail
  refine h4.mono ?_
  rintro e w1 ⟨rfl, m1⟩
  clear h4
  go_wp2_with fail
  go_ret
  exact ⟨rfl, m1⟩
theorem refuses_holds : Rows.RefusesSaid := said_of law_any
#print axioms refuses_holds
end Go.Proofs.YtmbapmbpnnaanabGreat
