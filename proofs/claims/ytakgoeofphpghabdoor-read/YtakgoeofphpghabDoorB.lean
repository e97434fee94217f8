import Derived.Test.YtakgoeofphpghabDoorA
import Derived.Test.YtakgoeofphpghabDoorP
import Derived.Lib.Strings
import Derived.Lib.IndexBytes
namespace Go.Proofs.YtakgoeofphpghabDoor
open Go.RowKit

theorem dig_any (c : UInt8) (w : World) : Calls Tryd.prog 25 #[.int .u8 (c.toNat : Int)] w fun e w' => e = .returned (.bool (digB c)) ∧ w' = w := by
  by_cases h1 : (48 : Int) ≤ (c.toNat : Int)
  · by_cases h2 : (c.toNat : Int) ≤ 57
    · have e : digB c = true := by unfold digB; exact decide_eq_true ⟨by omega, by omega⟩
      rw [e]
      go_enter Tryd.func25, Tryd.ntmps25
      go_wp2
      go_ret
      exact ⟨rfl, rfl⟩
    · have e : digB c = false := by unfold digB; exact decide_eq_false (by omega)
      rw [e]
      go_enter Tryd.func25, Tryd.ntmps25
      go_wp2
      go_ret
      exact ⟨rfl, rfl⟩
  · have e : digB c = false := by unfold digB; exact decide_eq_false (by omega)
    rw [e]
    go_enter Tryd.func25, Tryd.ntmps25
    go_wp2
    go_ret
    exact ⟨rfl, rfl⟩

theorem let_any (c : UInt8) (w : World) : Calls Tryd.prog 24 #[.int .u8 (c.toNat : Int)] w fun e w' => e = .returned (.bool (letB c)) ∧ w' = w := by
  have hc := c.toNat_lt
  by_cases h1 : (97 : Int) ≤ (c.toNat : Int)
  · have h3 : (65 : Int) ≤ (c.toNat : Int) := by omega
    have h4 : ¬ (c.toNat : Int) ≤ 68 := by omega
    by_cases h2 : (c.toNat : Int) ≤ 100
    · have e : letB c = true := by unfold letB; exact decide_eq_true (by omega)
      rw [e]
      go_enter Tryd.func24, Tryd.ntmps24
      go_wp2
      go_ret
      exact ⟨rfl, rfl⟩
    · have e : letB c = false := by unfold letB; exact decide_eq_false (by omega)
      rw [e]
      go_enter Tryd.func24, Tryd.ntmps24
      go_wp2
      go_ret
      exact ⟨rfl, rfl⟩
  · have h4 : (c.toNat : Int) ≤ 100 ∨ True := Or.inr trivial
    clear h4
    by_cases h3 : (65 : Int) ≤ (c.toNat : Int)
    · by_cases h2 : (c.toNat : Int) ≤ 68
      · have e : letB c = true := by unfold letB; exact decide_eq_true (by omega)
        rw [e]
        go_enter Tryd.func24, Tryd.ntmps24
        go_wp2
        go_ret
        exact ⟨rfl, rfl⟩
      · have e : letB c = false := by unfold letB; exact decide_eq_false (by omega)
        rw [e]
        go_enter Tryd.func24, Tryd.ntmps24
        go_wp2
        go_ret
        exact ⟨rfl, rfl⟩
    · have e : letB c = false := by unfold letB; exact decide_eq_false (by omega)
      rw [e]
      go_enter Tryd.func24, Tryd.ntmps24
      go_wp2
      go_ret
      exact ⟨rfl, rfl⟩

/-- The place, as the world has it: for a measure. -/
def kOf (w : World) (b : Nat) : Nat := (intOf ((w.cell? ⟨b, 1, none⟩).getD (.int .i64 0))).toNat
theorem Rd.kOf {w b s k bad} (h : Rd w b s k bad) : kOf w b = k := by unfold YtakgoeofphpghabDoor.kOf; rw [h.c1]; simp [intOf]

theorem lt_meas {w w' b s k k' bad bad'} (h : Rd w b s k bad) (h' : Rd w' b s k' bad') (h1 : k < k') (h2 : k < s.size) : s.size - kOf w' b < s.size - kOf w b := by rw [h.kOf, h'.kOf]; omega

theorem ext_run (q : UInt8 → Bool) (s : ByteArray) (k p : Nat) (hp : p = k + (run q s.data.toList k).length) : (s.extract k p).toList = run q s.data.toList k := by
  have e : (s.data.toList.drop k).take (p - k) = run q s.data.toList k := by
    rw [run_drop q s.data.toList k, show p - k = (run q s.data.toList k).length by omega, List.take_left]
  rw [Lib.extract_toList, e]
theorem ext_runD (q : UInt8 → Bool) (s : ByteArray) (k p : Nat) (hp : p = k + (run q s.data.toList k).length) : (s.extract k p).data.toList = run q s.data.toList k := by
  rw [Lib.extract_data, ← Lib.extract_toList, ext_run q s k p hp]

theorem nb_empty {s : ByteArray} {k p : Nat} {t : List UInt8} (ht : t = run digB s.data.toList k) (hp : p = k + t.length) (h : (s.extract k p).toList.isEmpty = true) : numBad t = true := by
  subst ht
  rw [ext_run digB s k p hp] at h
  simp [numBad, h]
theorem nb_zero {s : ByteArray} {k p : Nat} {t : List UInt8} (ht : t = run digB s.data.toList k) (hp : p = k + t.length) (h1 : (1 : Int) < ((p - k : Nat) : Int))
    (h0 : 0 < (s.extract k p).size) (h : ((((s.extract k p)[0]'h0).toNat : Int) == 48) = true) : numBad t = true := by
  have hg := Lib.data_getElem? (s.extract k p) 0 h0
  subst ht
  rw [ext_runD digB s k p hp] at hg
  have h2 : (s.extract k p)[0]'h0 = 48 := UInt8.toNat_inj.1 (by simp at h; simp; omega)
  rw [h2] at hg
  have h3 : 1 < (run digB s.data.toList k).length := by omega
  simp [numBad, List.head?_eq_getElem?, hg, h3]
theorem nb_not {s : ByteArray} {k p : Nat} {t : List UInt8} (ht : t = run digB s.data.toList k) (hp : p = k + t.length) (he : (s.extract k p).toList.isEmpty = false)
    (h0 : 0 < (s.extract k p).size) (h : ((((s.extract k p)[0]'h0).toNat : Int) == 48) = false) : numBad t = false := by
  have hg := Lib.data_getElem? (s.extract k p) 0 h0
  subst ht
  rw [ext_runD digB s k p hp] at hg
  rw [ext_run digB s k p hp] at he
  have h2 : ¬ (s.extract k p)[0]'h0 = 48 := fun h2 => by rw [h2] at h; simp at h
  simp only [numBad, he, List.head?_eq_getElem?, hg, Bool.false_or]
  simp [h2]
theorem nb_one {s : ByteArray} {k p : Nat} {t : List UInt8} (ht : t = run digB s.data.toList k) (hp : p = k + t.length) (he : (s.extract k p).toList.isEmpty = false)
    (h1 : ((p - k : Nat) : Int) ≤ 1) : numBad t = false := by
  subst ht
  rw [ext_run digB s k p hp] at he
  have h3 : ¬ 1 < (run digB s.data.toList k).length := by omega
  simp [numBad, he, h3]
theorem ret_int {k : IntKind} {a b : Int} (h : a = b) : Ending.returned (.int k a) = .returned (.int k b) := by rw [h]
end Go.Proofs.YtakgoeofphpghabDoor
