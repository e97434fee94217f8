import Derived.Test.YtmbapmbpnnaanabDoorC
namespace Go.Proofs.YtmbapmbpnnaanabDoor
open Go.RowKit

abbrev NumPost (b : Nat) (s : ByteArray) (k : Nat) (bad : Bool) (t : List UInt8) (w : World) (e : Ending) (w' : World) : Prop :=
  e = .returned (.int .i64 (numM t : Int)) ∧ Rd w' b s (k + t.length) (bad || numBad t) ∧ w.grownBy w' (some b)

set_option maxHeartbeats 1000000 in
theorem number_any (b : Nat) (s : ByteArray) (k : Nat) (bad : Bool) (w : World) (hs : s.size ≤ 1048576) (hk : k ≤ s.size) (hr : Rd w b s k bad) :
    Calls Tryd.prog 21 #[.pointer (some ⟨b, 0, none⟩)] w fun e w' => NumPost b s k bad (run digB s.data.toList k) w e w' := by
  have hrun := run_digit b s k bad w hs hk hr
  have hall := run_all digB s.data.toList k
  have hle := run_le digB s.data.toList k (by simpa using hk)
  obtain ⟨t, ht⟩ : ∃ t, t = run digB s.data.toList k := ⟨_, rfl⟩
  rw [← ht] at hrun hall hle ⊢
  obtain ⟨D, hD⟩ : ∃ D : ByteArray, D = ⟨t.toArray⟩ := ⟨_, rfl⟩
  have hDs : D.size = t.length := by rw [hD]; show t.toArray.size = _; simp
  have hDt : D.data.toList = t := by rw [hD]
  have hDg : ∀ i (h : i < D.size), t[i]? = some D[i] := fun i h => by rw [← hDt]; exact Lib.data_getElem? D i h
  have HST : Hid (∀ i, i < t.length → ∀ h : i < D.size, (48 : Int) ≤ (D[i].toNat : Int) ∧ (D[i].toNat : Int) ≤ 57 ∧ numM (t.take (i + 1)) = numStep (numM (t.take i)) D[i]) := fun i hi h => by
    have hg := hDg i h
    have hd : digB D[i] = true := hall _ (List.mem_of_getElem? hg)
    have := of_decide_eq_true hd
    refine ⟨by omega, by omega, ?_⟩
    rw [List.take_add_one, hg]
    exact numM_snoc _ _
  have hlen : t.length ≤ 1048576 := by simp at hle; omega
  have hunf : ∀ e w', RunPost b s k bad t w e w' → e = .returned (.string D) ∧ Rd w' b s (k + t.length) bad ∧ w.grownBy w' (some b) := fun e w' h => by rw [hD]; exact h
  have hrun2 := hrun.mono hunf
  have hhead : ∀ h : 0 < D.size, t.head? = some D[0] := fun h => by rw [List.head?_eq_getElem?]; exact hDg 0 h
  have HHD : Hid _ := hhead
  clear hrun hunf hall hle ht hr hD hDt hDg hhead
  by_cases h0 : D.size = 0
  · have hse : D.toList.isEmpty = true := by rw [empty_iff]; exact decide_eq_true h0
    have HB : Hid (numBad t = true) := by
      show numBad t = true
      have : t = [] := List.eq_nil_of_length_eq_zero (by omega)
      rw [this]; rfl
    have h1 : ¬ (1 : Int) < (D.size : Int) := by omega
    go_enter Tryd.func21, Tryd.ntmps21
    go_wp2_with fail
    refine hrun2.mono ?_
    rintro e w1 ⟨rfl, hr1, hg1⟩
    have hfail := fail_any b s (k + t.length) bad w1 hr1
    clear hrun2 hr1
    go_wp2_with fail
    refine hfail.mono ?_
    rintro e w2 ⟨rfl, hr2, hg2⟩
    have HR2 : Hid (Rd w2 b s (k + t.length) (bad || numBad t)) := by
      show Rd w2 b s (k + t.length) (bad || numBad t)
      rw [HB.out, Bool.or_true]; exact hr2
    have HG2 : Hid (w.grownBy w2 (some b)) := grown_trans hg1 hg2
    clear hfail hr2 hg1 hg2 HB
    go_wp2
    go_loop [4, 5] (fun nn ii => ∃ i : Nat, i ≤ t.length ∧ ii = .int .i64 (i : Int) ∧ nn = .int .i64 (numM (t.take i) : Int)) (fun _ ii => t.length - (intOf ii).toNat)
    case atStart => exact ⟨0, Nat.zero_le _, rfl, rfl⟩
    case round =>
      obtain ⟨i, hi, rfl, rfl⟩ := hrel
      by_cases hlt : i < D.size
      · have hil : i < t.length := by omega
        obtain ⟨hb1, hb2, hnx⟩ := HST.out i hil hlt
        have HNX : Hid (numM (t.take (i + 1)) = numStep (numM (t.take i)) D[i]) := hnx
        have hnl := numM_le (t.take i)
        have HSTOP : Hid (200 < numM (t.take i) → numM t = numM (t.take i)) := num_stop t i
        obtain ⟨m, hm⟩ : ∃ m, m = numM (t.take i) := ⟨_, rfl⟩
        rw [← hm] at hnl HNX HSTOP ⊢
        clear hm hnx
        have hlti : (i : Int) < (D.size : Int) := by omega
        by_cases hm2 : m ≤ 200
        · have hm3 : (m : Int) ≤ 200 := by omega
          go_wp2
          go_round
          case rel =>
            refine ⟨i + 1, by omega, by go_num, ?_⟩
            rw [HNX.out]; unfold numStep; rw [if_pos hm2]
            have : ((m * 10 + (D[i].toNat - 48) : Nat) : Int) = (m : Int) * 10 + ((D[i].toNat : Int) - 48) := by omega
            rw [this]
          case measure => simp [intOf]; omega
        · have hm3 : ¬ (m : Int) ≤ 200 := by omega
          go_wp2
          go_ret
          rw [← HSTOP.out (by omega)]
          exact ⟨rfl, HR2.out, HG2.out⟩
      · obtain rfl : i = t.length := by omega
        have hlti : ¬ ((t.length : Nat) : Int) < (D.size : Int) := by omega
        rw [List.take_length]
        go_wp2
        go_ret
        exact ⟨rfl, HR2.out, HG2.out⟩
  · have hse : D.toList.isEmpty = false := by rw [empty_iff]; exact decide_eq_false h0
    by_cases h1 : 1 < D.size
    · have h1i : (1 : Int) < (D.size : Int) := by omega
      have h0s : 0 < D.size := by omega
      by_cases hz : ((D[0].toNat : Int) == 48) = true
      · have HB : Hid (numBad t = true) := by
          show numBad t = true
          have hd0 : D[0] = 48 := UInt8.toNat_inj.1 (by simp at hz; simp; omega)
          unfold numBad
          rw [HHD.out h0s, hd0]
          simp
          exact Or.inr (by omega)
        go_enter Tryd.func21, Tryd.ntmps21
        go_wp2_with fail
        refine hrun2.mono ?_
        rintro e w1 ⟨rfl, hr1, hg1⟩
        have hfail := fail_any b s (k + t.length) bad w1 hr1
        clear hrun2 hr1
        go_wp2_with fail
        refine hfail.mono ?_
        rintro e w2 ⟨rfl, hr2, hg2⟩
        have HR2 : Hid (Rd w2 b s (k + t.length) (bad || numBad t)) := by
          show Rd w2 b s (k + t.length) (bad || numBad t)
          rw [HB.out, Bool.or_true]; exact hr2
        have HG2 : Hid (w.grownBy w2 (some b)) := grown_trans hg1 hg2
        clear hfail hr2 hg1 hg2 HB
        go_wp2
        go_loop [4, 5] (fun nn ii => ∃ i : Nat, i ≤ t.length ∧ ii = .int .i64 (i : Int) ∧ nn = .int .i64 (numM (t.take i) : Int)) (fun _ ii => t.length - (intOf ii).toNat)
        case atStart => exact ⟨0, Nat.zero_le _, rfl, rfl⟩
        case round =>
          obtain ⟨i, hi, rfl, rfl⟩ := hrel
          by_cases hlt : i < D.size
          · have hil : i < t.length := by omega
            obtain ⟨hb1, hb2, hnx⟩ := HST.out i hil hlt
            have HNX : Hid (numM (t.take (i + 1)) = numStep (numM (t.take i)) D[i]) := hnx
            have hnl := numM_le (t.take i)
            have HSTOP : Hid (200 < numM (t.take i) → numM t = numM (t.take i)) := num_stop t i
            obtain ⟨m, hm⟩ : ∃ m, m = numM (t.take i) := ⟨_, rfl⟩
            rw [← hm] at hnl HNX HSTOP ⊢
            clear hm hnx
            have hlti : (i : Int) < (D.size : Int) := by omega
            by_cases hm2 : m ≤ 200
            · have hm3 : (m : Int) ≤ 200 := by omega
              go_wp2
              go_round
              case rel =>
                refine ⟨i + 1, by omega, by go_num, ?_⟩
                rw [HNX.out]; unfold numStep; rw [if_pos hm2]
                have : ((m * 10 + (D[i].toNat - 48) : Nat) : Int) = (m : Int) * 10 + ((D[i].toNat : Int) - 48) := by omega
                rw [this]
              case measure => simp [intOf]; omega
            · have hm3 : ¬ (m : Int) ≤ 200 := by omega
              go_wp2
              go_ret
              rw [← HSTOP.out (by omega)]
              exact ⟨rfl, HR2.out, HG2.out⟩
          · obtain rfl : i = t.length := by omega
            have hlti : ¬ ((t.length : Nat) : Int) < (D.size : Int) := by omega
            rw [List.take_length]
            go_wp2
            go_ret
            exact ⟨rfl, HR2.out, HG2.out⟩
      · have hzf : ((D[0].toNat : Int) == 48) = false := by simpa using hz
        have HB : Hid (numBad t = false) := by
          show numBad t = false
          have hd0 : ¬ D[0] = 48 := fun h => by rw [h] at hz; simp at hz
          have hne : t.isEmpty = false := by
            cases t with
            | nil => have e : D.size = 0 := hDs; omega
            | cons a l => rfl
          unfold numBad
          rw [HHD.out h0s, hne]
          simp [hd0]
        clear hz
        go_enter Tryd.func21, Tryd.ntmps21
        go_wp2_with fail
        refine hrun2.mono ?_
        rintro e w1 ⟨rfl, hr1, hg1⟩
        have HR2 : Hid (Rd w1 b s (k + t.length) (bad || numBad t)) := by
          show Rd w1 b s (k + t.length) (bad || numBad t)
          rw [HB.out, Bool.or_false]; exact hr1
        have HG2 : Hid (w.grownBy w1 (some b)) := hg1
        clear hrun2 hr1 hg1 HB
        go_wp2
        go_loop [4, 5] (fun nn ii => ∃ i : Nat, i ≤ t.length ∧ ii = .int .i64 (i : Int) ∧ nn = .int .i64 (numM (t.take i) : Int)) (fun _ ii => t.length - (intOf ii).toNat)
        case atStart => exact ⟨0, Nat.zero_le _, rfl, rfl⟩
        case round =>
          obtain ⟨i, hi, rfl, rfl⟩ := hrel
          by_cases hlt : i < D.size
          · have hil : i < t.length := by omega
            obtain ⟨hb1, hb2, hnx⟩ := HST.out i hil hlt
            have HNX : Hid (numM (t.take (i + 1)) = numStep (numM (t.take i)) D[i]) := hnx
            have hnl := numM_le (t.take i)
            have HSTOP : Hid (200 < numM (t.take i) → numM t = numM (t.take i)) := num_stop t i
            obtain ⟨m, hm⟩ : ∃ m, m = numM (t.take i) := ⟨_, rfl⟩
            rw [← hm] at hnl HNX HSTOP ⊢
            clear hm hnx
            have hlti : (i : Int) < (D.size : Int) := by omega
            by_cases hm2 : m ≤ 200
            · have hm3 : (m : Int) ≤ 200 := by omega
              go_wp2
              go_round
              case rel =>
                refine ⟨i + 1, by omega, by go_num, ?_⟩
                rw [HNX.out]; unfold numStep; rw [if_pos hm2]
                have : ((m * 10 + (D[i].toNat - 48) : Nat) : Int) = (m : Int) * 10 + ((D[i].toNat : Int) - 48) := by omega
                rw [this]
              case measure => simp [intOf]; omega
            · have hm3 : ¬ (m : Int) ≤ 200 := by omega
              go_wp2
              go_ret
              rw [← HSTOP.out (by omega)]
              exact ⟨rfl, HR2.out, HG2.out⟩
          · obtain rfl : i = t.length := by omega
            have hlti : ¬ ((t.length : Nat) : Int) < (D.size : Int) := by omega
            rw [List.take_length]
            go_wp2
            go_ret
            exact ⟨rfl, HR2.out, HG2.out⟩
    · have h1i : ¬ (1 : Int) < (D.size : Int) := by omega
      have HB : Hid (numBad t = false) := by
        show numBad t = false
        have hne : t.isEmpty = false := by
          cases t with
          | nil => have e : D.size = 0 := hDs; omega
          | cons a l => rfl
        unfold numBad
        rw [hne]
        simp
        intro h
        omega
      go_enter Tryd.func21, Tryd.ntmps21
      go_wp2_with fail
      refine hrun2.mono ?_
      rintro e w1 ⟨rfl, hr1, hg1⟩
      have HR2 : Hid (Rd w1 b s (k + t.length) (bad || numBad t)) := by
        show Rd w1 b s (k + t.length) (bad || numBad t)
        rw [HB.out, Bool.or_false]; exact hr1
      have HG2 : Hid (w.grownBy w1 (some b)) := hg1
      clear hrun2 hr1 hg1 HB
      go_wp2
      go_loop [4, 5] (fun nn ii => ∃ i : Nat, i ≤ t.length ∧ ii = .int .i64 (i : Int) ∧ nn = .int .i64 (numM (t.take i) : Int)) (fun _ ii => t.length - (intOf ii).toNat)
      case atStart => exact ⟨0, Nat.zero_le _, rfl, rfl⟩
      case round =>
        obtain ⟨i, hi, rfl, rfl⟩ := hrel
        by_cases hlt : i < D.size
        · have hil : i < t.length := by omega
          obtain ⟨hb1, hb2, hnx⟩ := HST.out i hil hlt
          have HNX : Hid (numM (t.take (i + 1)) = numStep (numM (t.take i)) D[i]) := hnx
          have hnl := numM_le (t.take i)
          have HSTOP : Hid (200 < numM (t.take i) → numM t = numM (t.take i)) := num_stop t i
          obtain ⟨m, hm⟩ : ∃ m, m = numM (t.take i) := ⟨_, rfl⟩
          rw [← hm] at hnl HNX HSTOP ⊢
          clear hm hnx
          have hlti : (i : Int) < (D.size : Int) := by omega
          by_cases hm2 : m ≤ 200
          · have hm3 : (m : Int) ≤ 200 := by omega
            go_wp2
            go_round
            case rel =>
              refine ⟨i + 1, by omega, by go_num, ?_⟩
              rw [HNX.out]; unfold numStep; rw [if_pos hm2]
              have : ((m * 10 + (D[i].toNat - 48) : Nat) : Int) = (m : Int) * 10 + ((D[i].toNat : Int) - 48) := by omega
              rw [this]
            case measure => simp [intOf]; omega
          · have hm3 : ¬ (m : Int) ≤ 200 := by omega
            go_wp2
            go_ret
            rw [← HSTOP.out (by omega)]
            exact ⟨rfl, HR2.out, HG2.out⟩
        · obtain rfl : i = t.length := by omega
          have hlti : ¬ ((t.length : Nat) : Int) < (D.size : Int) := by omega
          rw [List.take_length]
          go_wp2
          go_ret
          exact ⟨rfl, HR2.out, HG2.out⟩
end Go.Proofs.YtmbapmbpnnaanabDoor
