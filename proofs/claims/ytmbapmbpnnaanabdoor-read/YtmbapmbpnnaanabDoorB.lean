import Derived.Test.YtmbapmbpnnaanabDoorA
import Derived.Test.YtmbapmbpnnaanabDoorP
import Derived.Lib.Strings
import Derived.Lib.IndexBytes
namespace Go.Proofs.YtmbapmbpnnaanabDoor
open Go.RowKit

def lowB (c : UInt8) : Bool := decide (97 ≤ c.toNat ∧ c.toNat ≤ 100)
theorem is_any (c : UInt8) (w : World) : Calls Tryd.prog 45 #[.int .u8 (c.toNat : Int)] w fun e w' => e = .returned (.bool (lowB c)) ∧ w' = w := by
  by_cases h1 : (97 : Int) ≤ (c.toNat : Int)
  · by_cases h2 : (c.toNat : Int) ≤ 100
    · have e : lowB c = true := by unfold lowB; exact decide_eq_true ⟨by omega, by omega⟩
      rw [e]
      go_enter Tryd.func45, Tryd.ntmps45
      go_wp2
      go_ret
      exact ⟨rfl, rfl⟩
    · have e : lowB c = false := by unfold lowB; exact decide_eq_false (by omega)
      rw [e]
      go_enter Tryd.func45, Tryd.ntmps45
      go_wp2
      go_ret
      exact ⟨rfl, rfl⟩
  · have e : lowB c = false := by unfold lowB; exact decide_eq_false (by omega)
    rw [e]
    go_enter Tryd.func45, Tryd.ntmps45
    go_wp2
    go_ret
    exact ⟨rfl, rfl⟩

theorem said_any (c : UInt8) (w : World) : Calls Tryd.prog 46 #[.int .u8 (c.toNat : Int)] w fun e w' => e = .returned (.bool (letB c)) ∧ w' = w := by
  have his := is_any c w
  have hc := c.toNat_lt
  cases hl : lowB c with
  | true =>
    have e : letB c = true := by
      have := of_decide_eq_true hl
      unfold letB; exact decide_eq_true (by omega)
    rw [e]
    rw [hl] at his
    clear hl e
    go_enter Tryd.func46, Tryd.ntmps46
    go_wp2_with fail
    refine his.mono ?_
    rintro e w1 ⟨rfl, rfl⟩
    clear his
    go_wp2
    go_ret
    exact ⟨rfl, rfl⟩
  | false =>
    have hn := of_decide_eq_false hl
    rw [hl] at his
    by_cases h3 : (65 : Int) ≤ (c.toNat : Int)
    · by_cases h2 : (c.toNat : Int) ≤ 68
      · have e : letB c = true := by unfold letB; exact decide_eq_true (by omega)
        rw [e]
        clear hl e hn
        go_enter Tryd.func46, Tryd.ntmps46
        go_wp2_with fail
        refine his.mono ?_
        rintro e w1 ⟨rfl, rfl⟩
        clear his
        go_wp2
        go_ret
        exact ⟨rfl, rfl⟩
      · have e : letB c = false := by unfold letB; exact decide_eq_false (by omega)
        rw [e]
        clear hl e hn
        go_enter Tryd.func46, Tryd.ntmps46
        go_wp2_with fail
        refine his.mono ?_
        rintro e w1 ⟨rfl, rfl⟩
        clear his
        go_wp2
        go_ret
        refine ⟨?_, rfl⟩
        show Ending.returned (.bool (decide ((c.toNat : Int) ≤ 68))) = _
        rw [decide_eq_false (by omega)]
    · have e : letB c = false := by unfold letB; exact decide_eq_false (by omega)
      rw [e]
      clear hl e hn
      go_enter Tryd.func46, Tryd.ntmps46
      go_wp2_with fail
      refine his.mono ?_
      rintro e w1 ⟨rfl, rfl⟩
      clear his
      go_wp2
      go_ret
      exact ⟨rfl, rfl⟩

/-- The classes of bytes that Read comes to: letters that may be said, digits. -/
def clsB (d : Bool) (c : UInt8) : Bool := if d = true then digB c else letB c
def clsN (d : Bool) : Int := if d = true then 2 else 1
theorem has_said (c : UInt8) (w : World) : Calls Tryd.prog 38 #[.int .i64 1, .int .u8 (c.toNat : Int)] w fun e w' => e = .returned (.bool (letB c)) ∧ w' = w := by
  have hsaid := said_any c w
  go_enter Tryd.func38, Tryd.ntmps38
  go_wp2_with fail
  refine hsaid.mono ?_
  rintro e w1 ⟨rfl, rfl⟩
  clear hsaid
  go_wp2
  go_ret
  exact ⟨rfl, rfl⟩
theorem has_digit (c : UInt8) (w : World) : Calls Tryd.prog 38 #[.int .i64 2, .int .u8 (c.toNat : Int)] w fun e w' => e = .returned (.bool (digB c)) ∧ w' = w := by
  by_cases h1 : (48 : Int) ≤ (c.toNat : Int)
  · by_cases h2 : (c.toNat : Int) ≤ 57
    · have e : digB c = true := by unfold digB; exact decide_eq_true ⟨by omega, by omega⟩
      rw [e]
      go_enter Tryd.func38, Tryd.ntmps38
      go_wp2
      go_ret
      exact ⟨rfl, rfl⟩
    · have e : digB c = false := by unfold digB; exact decide_eq_false (by omega)
      rw [e]
      go_enter Tryd.func38, Tryd.ntmps38
      go_wp2
      go_ret
      exact ⟨rfl, rfl⟩
  · have e : digB c = false := by unfold digB; exact decide_eq_false (by omega)
    rw [e]
    go_enter Tryd.func38, Tryd.ntmps38
    go_wp2
    go_ret
    exact ⟨rfl, rfl⟩
theorem has_any (d : Bool) (c : UInt8) (w : World) : Calls Tryd.prog 38 #[.int .i64 (clsN d), .int .u8 (c.toNat : Int)] w fun e w' => e = .returned (.bool (clsB d c)) ∧ w' = w := by
  cases d with
  | true => exact has_digit c w
  | false => exact has_said c w

/-- The place, as the world has it: for a measure. -/
def kOf (w : World) (b : Nat) : Nat := (intOf ((w.cell? ⟨b, 1, none⟩).getD (.int .i64 0))).toNat
theorem Rd.kOf {w b s k bad} (h : Rd w b s k bad) : kOf w b = k := by unfold YtmbapmbpnnaanabDoor.kOf; rw [h.c1]; simp [intOf]

theorem lt_meas {w w' b s k k' bad bad'} (h : Rd w b s k bad) (h' : Rd w' b s k' bad') (h1 : k < k') (h2 : k < s.size) : s.size - kOf w' b < s.size - kOf w b := by rw [h.kOf, h'.kOf]; omega

theorem ret_int {k : IntKind} {a b : Int} (h : a = b) : Ending.returned (.int k a) = .returned (.int k b) := by rw [h]
theorem toList_data (s : ByteArray) : s.toList = s.data.toList := by
  have := Lib.extract_toList s 0 s.size
  have h2 : s.extract 0 s.size = s := by simp
  rw [h2] at this
  rw [this, List.drop_zero, Nat.sub_zero]
  refine List.take_of_length_le ?_
  show s.data.toList.length ≤ s.data.size
  simp
theorem empty_iff (s : ByteArray) : s.toList.isEmpty = decide (s.size = 0) := by
  rw [toList_data]
  cases h : s.data.toList with
  | nil =>
    have : s.size = 0 := by show s.data.size = 0; rw [← Array.length_toList, h]; rfl
    simp [this]
  | cons a l =>
    have : ¬ s.size = 0 := by show ¬ s.data.size = 0; rw [← Array.length_toList, h]; simp
    simp [this]

end Go.Proofs.YtmbapmbpnnaanabDoor
