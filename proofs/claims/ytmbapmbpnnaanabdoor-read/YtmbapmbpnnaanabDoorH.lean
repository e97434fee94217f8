import Derived.Test.YtmbapmbpnnaanabDoorG
namespace Go.Proofs.YtmbapmbpnnaanabDoor
open Go.RowKit

def letBit (c : UInt8) : Nat := if c = 97 then 1 else if c = 98 then 2 else if c = 99 then 4 else if c = 100 then 8 else if c = 65 then 16 else if c = 66 then 32 else if c = 67 then 64 else if c = 68 then 128 else 0
def bgnM (s : ByteArray) : Nat := if h : 0 < s.size then letBit (s[0]'h) else 256
theorem letBit_lt (c : UInt8) : letBit c < 512 := by unfold letBit; repeat' split
                                                     all_goals omega
theorem bgnM_lt (s : ByteArray) : bgnM s < 512 := by
  unfold bgnM
  split
  · exact letBit_lt _
  · omega

theorem beginning_empty (s : ByteArray) (w : World) (h0 : s.size = 0) : Calls Tryd.prog 39 #[.string s] w fun e w' => e = .returned (.int .i64 (bgnM s : Int)) ∧ ∃ n, w' = w.drewN n := by
  have hs : s.toList.isEmpty = true := by rw [empty_iff]; simpa using h0
  have e : bgnM s = 256 := by unfold bgnM; rw [dif_neg (by omega)]
  rw [e]
  go_enter Tryd.func39, Tryd.ntmps39
  go_wp2
  go_ret
  exact ⟨rfl, 0, rfl⟩

theorem drewN_more {w wr : World} {k : Nat} (h : ∃ n, wr = w.drewN n) : ∃ n, wr.drewN k = w.drewN n := by
  obtain ⟨n, rfl⟩ := h
  exact ⟨n + k, by simp⟩

set_option maxHeartbeats 1000000 in
theorem beginning_some (s : ByteArray) (w : World) (hp : 0 < s.size) : Calls Tryd.prog 39 #[.string s] w fun e w' => e = .returned (.int .i64 (bgnM s : Int)) ∧ ∃ n, w' = w.drewN n := by
  have hs : s.toList.isEmpty = false := by rw [empty_iff]; exact decide_eq_false (by omega)
  have e : bgnM s = letBit s[0] := by unfold bgnM; rw [dif_pos hp]
  rw [e]
  have hpi : (0 : Int) < (s.size : Int) := by omega
  obtain ⟨c, hc⟩ : ∃ c, c = s[0] := ⟨_, rfl⟩
  rw [← hc]
  have hcn : ((s[0]'hp).toNat : Int) = (c.toNat : Int) := by rw [hc]
  clear hc e
  go_enter Tryd.func39, Tryd.ntmps39
  go_wp2
  go_loopw [3, 4] (fun bt ii wr => ∃ (i b : Nat), i ≤ 8 ∧ b = 2 ^ i ∧ ii = .int .i64 (i : Int) ∧ bt = .int .i64 (b : Int) ∧ (∀ j, j < i → c.toNat ≠ [97, 98, 99, 100, 65, 66, 67, 68].getD j 0) ∧ ∃ n, wr = w.drewN n) (fun _ ii _ => 8 - (intOf ii).toNat)
  case atStart => exact ⟨0, 1, by omega, rfl, rfl, rfl, fun j hj => by omega, 0, rfl⟩
  case round =>
    obtain ⟨i, b, hi, hb, rfl, rfl, hj, hw⟩ := hrel
    have HW : Hid (∃ n, wr = w.drewN n) := hw
    clear hw
    have HJ : Hid (∀ j, j < i → c.toNat ≠ [97, 98, 99, 100, 65, 66, 67, 68].getD j 0) := hj
    clear hj
    match i, hi with
    | 0, _ =>
      obtain rfl : b = 1 := hb
      by_cases h : ((97 : Int) == (c.toNat : Int)) = true
      · have hl : letBit c = 1 := by
          have : c = 97 := UInt8.toNat_inj.1 (by simp at h; simp; omega)
          rw [this]; rfl
        have HL : Hid _ := hl
        clear hl
        have h' : ((((⟨#[97, 98, 99, 100, 65, 66, 67, 68]⟩ : ByteArray)[0]'(by decide)).toNat : Int) == (c.toNat : Int)) = true := h
        go_wp2
        go_quiet (fail)
        go_wp2
        go_ret
        exact ⟨by rw [HL.out]; rfl, drewN_more HW.out⟩
      · have hf : ((97 : Int) == (c.toNat : Int)) = false := by simpa using h
        clear h
        have HK : Hid (∀ j, j < 1 → c.toNat ≠ [97, 98, 99, 100, 65, 66, 67, 68].getD j 0) := by
          show ∀ j, j < 1 → c.toNat ≠ [97, 98, 99, 100, 65, 66, 67, 68].getD j 0
          intro j hj
          rcases Nat.lt_or_ge j 0 with h2 | h2
          · exact HJ.out j h2
          · obtain rfl : j = 0 := by omega
            intro e
            rw [e] at hf
            exact absurd hf (by decide)
        clear HJ
        have h' : ((((⟨#[97, 98, 99, 100, 65, 66, 67, 68]⟩ : ByteArray)[0]'(by decide)).toNat : Int) == (c.toNat : Int)) = false := hf
        go_wp2
        go_quiet (fail)
        go_wp2
        go_roundw
        case rel => exact ⟨1, 2, by omega, rfl, rfl, rfl, HK.out, drewN_more HW.out⟩
        case measure => simp [intOf]
    | 1, _ =>
      obtain rfl : b = 2 := hb
      by_cases h : ((98 : Int) == (c.toNat : Int)) = true
      · have hl : letBit c = 2 := by
          have : c = 98 := UInt8.toNat_inj.1 (by simp at h; simp; omega)
          rw [this]; rfl
        have HL : Hid _ := hl
        clear hl
        have h' : ((((⟨#[97, 98, 99, 100, 65, 66, 67, 68]⟩ : ByteArray)[1]'(by decide)).toNat : Int) == (c.toNat : Int)) = true := h
        go_wp2
        go_quiet (fail)
        go_wp2
        go_ret
        exact ⟨by rw [HL.out]; rfl, drewN_more HW.out⟩
      · have hf : ((98 : Int) == (c.toNat : Int)) = false := by simpa using h
        clear h
        have HK : Hid (∀ j, j < 2 → c.toNat ≠ [97, 98, 99, 100, 65, 66, 67, 68].getD j 0) := by
          show ∀ j, j < 2 → c.toNat ≠ [97, 98, 99, 100, 65, 66, 67, 68].getD j 0
          intro j hj
          rcases Nat.lt_or_ge j 1 with h2 | h2
          · exact HJ.out j h2
          · obtain rfl : j = 1 := by omega
            intro e
            rw [e] at hf
            exact absurd hf (by decide)
        clear HJ
        have h' : ((((⟨#[97, 98, 99, 100, 65, 66, 67, 68]⟩ : ByteArray)[1]'(by decide)).toNat : Int) == (c.toNat : Int)) = false := hf
        go_wp2
        go_quiet (fail)
        go_wp2
        go_roundw
        case rel => exact ⟨2, 4, by omega, rfl, rfl, rfl, HK.out, drewN_more HW.out⟩
        case measure => simp [intOf]
    | 2, _ =>
      obtain rfl : b = 4 := hb
      by_cases h : ((99 : Int) == (c.toNat : Int)) = true
      · have hl : letBit c = 4 := by
          have : c = 99 := UInt8.toNat_inj.1 (by simp at h; simp; omega)
          rw [this]; rfl
        have HL : Hid _ := hl
        clear hl
        have h' : ((((⟨#[97, 98, 99, 100, 65, 66, 67, 68]⟩ : ByteArray)[2]'(by decide)).toNat : Int) == (c.toNat : Int)) = true := h
        go_wp2
        go_quiet (fail)
        go_wp2
        go_ret
        exact ⟨by rw [HL.out]; rfl, drewN_more HW.out⟩
      · have hf : ((99 : Int) == (c.toNat : Int)) = false := by simpa using h
        clear h
        have HK : Hid (∀ j, j < 3 → c.toNat ≠ [97, 98, 99, 100, 65, 66, 67, 68].getD j 0) := by
          show ∀ j, j < 3 → c.toNat ≠ [97, 98, 99, 100, 65, 66, 67, 68].getD j 0
          intro j hj
          rcases Nat.lt_or_ge j 2 with h2 | h2
          · exact HJ.out j h2
          · obtain rfl : j = 2 := by omega
            intro e
            rw [e] at hf
            exact absurd hf (by decide)
        clear HJ
        have h' : ((((⟨#[97, 98, 99, 100, 65, 66, 67, 68]⟩ : ByteArray)[2]'(by decide)).toNat : Int) == (c.toNat : Int)) = false := hf
        go_wp2
        go_quiet (fail)
        go_wp2
        go_roundw
        case rel => exact ⟨3, 8, by omega, rfl, rfl, rfl, HK.out, drewN_more HW.out⟩
        case measure => simp [intOf]
    | 3, _ =>
      obtain rfl : b = 8 := hb
      by_cases h : ((100 : Int) == (c.toNat : Int)) = true
      · have hl : letBit c = 8 := by
          have : c = 100 := UInt8.toNat_inj.1 (by simp at h; simp; omega)
          rw [this]; rfl
        have HL : Hid _ := hl
        clear hl
        have h' : ((((⟨#[97, 98, 99, 100, 65, 66, 67, 68]⟩ : ByteArray)[3]'(by decide)).toNat : Int) == (c.toNat : Int)) = true := h
        go_wp2
        go_quiet (fail)
        go_wp2
        go_ret
        exact ⟨by rw [HL.out]; rfl, drewN_more HW.out⟩
      · have hf : ((100 : Int) == (c.toNat : Int)) = false := by simpa using h
        clear h
        have HK : Hid (∀ j, j < 4 → c.toNat ≠ [97, 98, 99, 100, 65, 66, 67, 68].getD j 0) := by
          show ∀ j, j < 4 → c.toNat ≠ [97, 98, 99, 100, 65, 66, 67, 68].getD j 0
          intro j hj
          rcases Nat.lt_or_ge j 3 with h2 | h2
          · exact HJ.out j h2
          · obtain rfl : j = 3 := by omega
            intro e
            rw [e] at hf
            exact absurd hf (by decide)
        clear HJ
        have h' : ((((⟨#[97, 98, 99, 100, 65, 66, 67, 68]⟩ : ByteArray)[3]'(by decide)).toNat : Int) == (c.toNat : Int)) = false := hf
        go_wp2
        go_quiet (fail)
        go_wp2
        go_roundw
        case rel => exact ⟨4, 16, by omega, rfl, rfl, rfl, HK.out, drewN_more HW.out⟩
        case measure => simp [intOf]
    | 4, _ =>
      obtain rfl : b = 16 := hb
      by_cases h : ((65 : Int) == (c.toNat : Int)) = true
      · have hl : letBit c = 16 := by
          have : c = 65 := UInt8.toNat_inj.1 (by simp at h; simp; omega)
          rw [this]; rfl
        have HL : Hid _ := hl
        clear hl
        have h' : ((((⟨#[97, 98, 99, 100, 65, 66, 67, 68]⟩ : ByteArray)[4]'(by decide)).toNat : Int) == (c.toNat : Int)) = true := h
        go_wp2
        go_quiet (fail)
        go_wp2
        go_ret
        exact ⟨by rw [HL.out]; rfl, drewN_more HW.out⟩
      · have hf : ((65 : Int) == (c.toNat : Int)) = false := by simpa using h
        clear h
        have HK : Hid (∀ j, j < 5 → c.toNat ≠ [97, 98, 99, 100, 65, 66, 67, 68].getD j 0) := by
          show ∀ j, j < 5 → c.toNat ≠ [97, 98, 99, 100, 65, 66, 67, 68].getD j 0
          intro j hj
          rcases Nat.lt_or_ge j 4 with h2 | h2
          · exact HJ.out j h2
          · obtain rfl : j = 4 := by omega
            intro e
            rw [e] at hf
            exact absurd hf (by decide)
        clear HJ
        have h' : ((((⟨#[97, 98, 99, 100, 65, 66, 67, 68]⟩ : ByteArray)[4]'(by decide)).toNat : Int) == (c.toNat : Int)) = false := hf
        go_wp2
        go_quiet (fail)
        go_wp2
        go_roundw
        case rel => exact ⟨5, 32, by omega, rfl, rfl, rfl, HK.out, drewN_more HW.out⟩
        case measure => simp [intOf]
    | 5, _ =>
      obtain rfl : b = 32 := hb
      by_cases h : ((66 : Int) == (c.toNat : Int)) = true
      · have hl : letBit c = 32 := by
          have : c = 66 := UInt8.toNat_inj.1 (by simp at h; simp; omega)
          rw [this]; rfl
        have HL : Hid _ := hl
        clear hl
        have h' : ((((⟨#[97, 98, 99, 100, 65, 66, 67, 68]⟩ : ByteArray)[5]'(by decide)).toNat : Int) == (c.toNat : Int)) = true := h
        go_wp2
        go_quiet (fail)
        go_wp2
        go_ret
        exact ⟨by rw [HL.out]; rfl, drewN_more HW.out⟩
      · have hf : ((66 : Int) == (c.toNat : Int)) = false := by simpa using h
        clear h
        have HK : Hid (∀ j, j < 6 → c.toNat ≠ [97, 98, 99, 100, 65, 66, 67, 68].getD j 0) := by
          show ∀ j, j < 6 → c.toNat ≠ [97, 98, 99, 100, 65, 66, 67, 68].getD j 0
          intro j hj
          rcases Nat.lt_or_ge j 5 with h2 | h2
          · exact HJ.out j h2
          · obtain rfl : j = 5 := by omega
            intro e
            rw [e] at hf
            exact absurd hf (by decide)
        clear HJ
        have h' : ((((⟨#[97, 98, 99, 100, 65, 66, 67, 68]⟩ : ByteArray)[5]'(by decide)).toNat : Int) == (c.toNat : Int)) = false := hf
        go_wp2
        go_quiet (fail)
        go_wp2
        go_roundw
        case rel => exact ⟨6, 64, by omega, rfl, rfl, rfl, HK.out, drewN_more HW.out⟩
        case measure => simp [intOf]
    | 6, _ =>
      obtain rfl : b = 64 := hb
      by_cases h : ((67 : Int) == (c.toNat : Int)) = true
      · have hl : letBit c = 64 := by
          have : c = 67 := UInt8.toNat_inj.1 (by simp at h; simp; omega)
          rw [this]; rfl
        have HL : Hid _ := hl
        clear hl
        have h' : ((((⟨#[97, 98, 99, 100, 65, 66, 67, 68]⟩ : ByteArray)[6]'(by decide)).toNat : Int) == (c.toNat : Int)) = true := h
        go_wp2
        go_quiet (fail)
        go_wp2
        go_ret
        exact ⟨by rw [HL.out]; rfl, drewN_more HW.out⟩
      · have hf : ((67 : Int) == (c.toNat : Int)) = false := by simpa using h
        clear h
        have HK : Hid (∀ j, j < 7 → c.toNat ≠ [97, 98, 99, 100, 65, 66, 67, 68].getD j 0) := by
          show ∀ j, j < 7 → c.toNat ≠ [97, 98, 99, 100, 65, 66, 67, 68].getD j 0
          intro j hj
          rcases Nat.lt_or_ge j 6 with h2 | h2
          · exact HJ.out j h2
          · obtain rfl : j = 6 := by omega
            intro e
            rw [e] at hf
            exact absurd hf (by decide)
        clear HJ
        have h' : ((((⟨#[97, 98, 99, 100, 65, 66, 67, 68]⟩ : ByteArray)[6]'(by decide)).toNat : Int) == (c.toNat : Int)) = false := hf
        go_wp2
        go_quiet (fail)
        go_wp2
        go_roundw
        case rel => exact ⟨7, 128, by omega, rfl, rfl, rfl, HK.out, drewN_more HW.out⟩
        case measure => simp [intOf]
    | 7, _ =>
      obtain rfl : b = 128 := hb
      by_cases h : ((68 : Int) == (c.toNat : Int)) = true
      · have hl : letBit c = 128 := by
          have : c = 68 := UInt8.toNat_inj.1 (by simp at h; simp; omega)
          rw [this]; rfl
        have HL : Hid _ := hl
        clear hl
        have h' : ((((⟨#[97, 98, 99, 100, 65, 66, 67, 68]⟩ : ByteArray)[7]'(by decide)).toNat : Int) == (c.toNat : Int)) = true := h
        go_wp2
        go_quiet (fail)
        go_wp2
        go_ret
        exact ⟨by rw [HL.out]; rfl, drewN_more HW.out⟩
      · have hf : ((68 : Int) == (c.toNat : Int)) = false := by simpa using h
        clear h
        have HK : Hid (∀ j, j < 8 → c.toNat ≠ [97, 98, 99, 100, 65, 66, 67, 68].getD j 0) := by
          show ∀ j, j < 8 → c.toNat ≠ [97, 98, 99, 100, 65, 66, 67, 68].getD j 0
          intro j hj
          rcases Nat.lt_or_ge j 7 with h2 | h2
          · exact HJ.out j h2
          · obtain rfl : j = 7 := by omega
            intro e
            rw [e] at hf
            exact absurd hf (by decide)
        clear HJ
        have h' : ((((⟨#[97, 98, 99, 100, 65, 66, 67, 68]⟩ : ByteArray)[7]'(by decide)).toNat : Int) == (c.toNat : Int)) = false := hf
        go_wp2
        go_quiet (fail)
        go_wp2
        go_roundw
        case rel => exact ⟨8, 256, by omega, rfl, rfl, rfl, HK.out, drewN_more HW.out⟩
        case measure => simp [intOf]
    | 8, _ =>
      have hl : letBit c = 0 := by
        have hne : ∀ (d : UInt8) (j : Nat), j < 8 → [97, 98, 99, 100, 65, 66, 67, 68].getD j 0 = d.toNat → c ≠ d := fun d j h1 h2 e => HJ.out j h1 (by rw [h2, e])
        unfold letBit
        rw [if_neg (hne 97 0 (by omega) rfl), if_neg (hne 98 1 (by omega) rfl), if_neg (hne 99 2 (by omega) rfl), if_neg (hne 100 3 (by omega) rfl), if_neg (hne 65 4 (by omega) rfl), if_neg (hne 66 5 (by omega) rfl), if_neg (hne 67 6 (by omega) rfl), if_neg (hne 68 7 (by omega) rfl)]
      have HL : Hid _ := hl
      clear hl
      go_wp2
      go_ret
      exact ⟨by rw [HL.out]; rfl, HW.out⟩

theorem beginning_any (s : ByteArray) (w : World) : Calls Tryd.prog 39 #[.string s] w fun e w' => e = .returned (.int .i64 (bgnM s : Int)) ∧ ∃ n, w' = w.drewN n := by
  rcases Nat.eq_zero_or_pos s.size with h | h
  · exact beginning_empty s w h
  · exact beginning_some s w h
end Go.Proofs.YtmbapmbpnnaanabDoor
