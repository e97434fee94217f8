import Derived.Test.YtmbapmbpnnaanabGreatSA
import Derived.Lib.Hide
import Derived.Test.YtmbapmbpnnaanabGreatKS
namespace Go.Proofs.YtmbapmbpnnaanabGreat.Ld
open Go.RowKit

theorem skip45 (b : Nat) (s : ByteArray) (k : Nat) (bad : Bool) (w : World) (hs : s.size ≤ 1048576) (hr : Rd w b s k bad) :
    Calls Tryz.prog 45 #[.pointer (some ⟨b, 0, none⟩), .int .u8 45] w fun e w' => e = .returned (.bool (seesB s 45 k bad)) ∧ Rd w' b s (if seesB s 45 k bad = true then k + 1 else k) bad ∧ w.grownBy w' (some b) := skip_any b s k bad 45 w hs hr

/-- What 'readWord' reads from k on: the word, the place behind it, whether it is none. -/
def wordM (s : ByteArray) (k : Nat) (bad : Bool) : List UInt8 × Nat × Bool :=
  if seesB s 45 k bad = true then ([], k + 1, false) else (run letB s.data.toList k, k + (run letB s.data.toList k).length, (run letB s.data.toList k).isEmpty)

theorem str_empty (t : List UInt8) : (⟨t.toArray⟩ : ByteArray).toList.isEmpty = t.isEmpty := by rw [toList_data]

set_option maxHeartbeats 400000 in
theorem word_any (b : Nat) (s : ByteArray) (k : Nat) (bad : Bool) (w : World) (hs : s.size ≤ 1048576) (hk : k ≤ s.size) (hr : Rd w b s k bad) :
    Calls Tryz.prog 69 #[.pointer (some ⟨b, 0, none⟩)] w fun e w' => e = .returned (.string ⟨(wordM s k bad).1.toArray⟩) ∧
      Rd w' b s (wordM s k bad).2.1 (bad || (wordM s k bad).2.2) ∧ w.grownBy w' (some b) := by
  have hskip := skip45 b s k bad w hs hr
  cases hS : seesB s 45 k bad with
  | true =>
    have HM : Hid (wordM s k bad = ([], k + 1, false)) := by
      show wordM s k bad = _
      unfold wordM
      rw [hS, if_pos rfl]
    rw [hS] at hskip
    clear hS hr
    go_enter Tryz.func69, Tryz.ntmps69
    go_wp2_with fail
    refine hskip.mono ?_
    rintro e w1 ⟨rfl, hr1, hg1⟩
    have HR1 : Hid (Rd w1 b s (k + 1) bad) := hr1
    clear hskip hr1
    go_wp2_with fail
    go_ret
    rw [HM.out]
    exact ⟨rfl, by simpa using HR1.out, hg1⟩
  | false =>
    obtain ⟨t, ht⟩ : ∃ t, t = run letB s.data.toList k := ⟨_, rfl⟩
    have HM : Hid (wordM s k bad = (t, k + t.length, t.isEmpty)) := by
      show wordM s k bad = _
      unfold wordM
      rw [hS, if_neg (by simp), ← ht]
    rw [hS] at hskip
    have hrun := fun wx h => run_said b s k bad wx hs hk h
    rw [← ht] at hrun
    clear hS hr ht
    go_enter Tryz.func69, Tryz.ntmps69
    go_wp2_with fail
    refine hskip.mono ?_
    rintro e w1 ⟨rfl, hr1, hg1⟩
    have hrun1 := hrun w1 hr1
    clear hskip hr1 hrun
    go_wp2_with fail
    refine hrun1.mono ?_
    rintro e w2 ⟨rfl, hr2, hg2⟩
    have hg3 : w.grownBy w2 (some b) := grown_trans hg1 hg2
    clear hrun1 hg1 hg2
    cases he : t.isEmpty with
    | true =>
      have hse : (⟨t.toArray⟩ : ByteArray).toList.isEmpty = true := by rw [str_empty]; exact he
      have hfail := fail_any b s (k + t.length) bad w2 hr2
      clear hr2
      go_wp2_with fail
      refine hfail.mono ?_
      rintro e w3 ⟨rfl, hr3, hg4⟩
      have HR3 : Hid (Rd w3 b s (k + t.length) true) := hr3
      clear hfail hr3
      go_wp2_with fail
      go_ret
      rw [HM.out, he]
      exact ⟨rfl, by simpa using HR3.out, grown_trans hg3 hg4⟩
    | false =>
      have hse : (⟨t.toArray⟩ : ByteArray).toList.isEmpty = false := by rw [str_empty]; exact he
      have HR2 : Hid (Rd w2 b s (k + t.length) bad) := hr2
      clear hr2
      go_wp2_with fail
      go_ret
      rw [HM.out, he]
      exact ⟨rfl, by simpa using HR2.out, hg3⟩
end Go.Proofs.YtmbapmbpnnaanabGreat.Ld
namespace Go.Proofs.YtmbapmbpnnaanabGreat.Ld
open Go.RowKit

abbrev NumPost (b : Nat) (s : ByteArray) (k : Nat) (bad : Bool) (t : List UInt8) (w : World) (e : Ending) (w' : World) : Prop :=
  e = .returned (.int .i64 (numM t : Int)) ∧ Rd w' b s (k + t.length) (bad || numBad t) ∧ w.grownBy w' (some b)

set_option maxHeartbeats 1000000 in
theorem number_any (b : Nat) (s : ByteArray) (k : Nat) (bad : Bool) (w : World) (hs : s.size ≤ 1048576) (hk : k ≤ s.size) (hr : Rd w b s k bad) :
    Calls Tryz.prog 70 #[.pointer (some ⟨b, 0, none⟩)] w fun e w' => NumPost b s k bad (run digB s.data.toList k) w e w' := by
  have hrun := run_digit b s k bad w hs hk hr
  have hall := run_all digB s.data.toList k
  have hle := run_le digB s.data.toList k (by simpa using hk)
  obtain ⟨t, ht⟩ : ∃ t, t = run digB s.data.toList k := ⟨_, rfl⟩
  rw [← ht] at hrun hall hle ⊢
  obtain ⟨D, hD⟩ : ∃ D : ByteArray, D = ⟨t.toArray⟩ := ⟨_, rfl⟩
  have hDs : D.size = t.length := by rw [hD]; show t.toArray.size = _; simp
  have hDt : D.data.toList = t := by rw [hD]
  have hDg : ∀ i (h : i < D.size), t[i]? = some D[i] := fun i h => by rw [← hDt]; exact Lib.data_getElem? D i h
  have HST : Hid (∀ i, i < t.length → ∀ h : i < D.size, (48 : Int) ≤ (D[i].toNat : Int) ∧ (D[i].toNat : Int) ≤ 57 ∧ numM (t.take (i + 1)) = numStep (numM (t.take i)) D[i]) := fun i hi h => by
    have hg := hDg i h
    have hd : digB D[i] = true := hall _ (List.mem_of_getElem? hg)
    have := of_decide_eq_true hd
    refine ⟨by omega, by omega, ?_⟩
    rw [List.take_add_one, hg]
    exact numM_snoc _ _
  have hlen : t.length ≤ 1048576 := by simp at hle; omega
  have hunf : ∀ e w', RunPost b s k bad t w e w' → e = .returned (.string D) ∧ Rd w' b s (k + t.length) bad ∧ w.grownBy w' (some b) := fun e w' h => by rw [hD]; exact h
  have hrun2 := hrun.mono hunf
  have hhead : ∀ h : 0 < D.size, t.head? = some D[0] := fun h => by rw [List.head?_eq_getElem?]; exact hDg 0 h
  have HHD : Hid _ := hhead
  clear hrun hunf hall hle ht hr hD hDt hDg hhead
  by_cases h0 : D.size = 0
  · have hse : D.toList.isEmpty = true := by rw [empty_iff]; exact decide_eq_true h0
    have HB : Hid (numBad t = true) := by
      show numBad t = true
      have : t = [] := List.eq_nil_of_length_eq_zero (by omega)
      rw [this]; rfl
    have h1 : ¬ (1 : Int) < (D.size : Int) := by omega
    go_enter Tryz.func70, Tryz.ntmps70
    go_wp2_with fail
    refine hrun2.mono ?_
    rintro e w1 ⟨rfl, hr1, hg1⟩
    have hfail := fail_any b s (k + t.length) bad w1 hr1
    clear hrun2 hr1
    go_wp2_with fail
    refine hfail.mono ?_
    rintro e w2 ⟨rfl, hr2, hg2⟩
    have HR2 : Hid (Rd w2 b s (k + t.length) (bad || numBad t)) := by
      show Rd w2 b s (k + t.length) (bad || numBad t)
      rw [HB.out, Bool.or_true]; exact hr2
    have HG2 : Hid (w.grownBy w2 (some b)) := grown_trans hg1 hg2
    clear hfail hr2 hg1 hg2 HB
    go_wp2
    go_loop [4, 5] (fun nn ii => ∃ i : Nat, i ≤ t.length ∧ ii = .int .i64 (i : Int) ∧ nn = .int .i64 (numM (t.take i) : Int)) (fun _ ii => t.length - (intOf ii).toNat)
    case atStart => exact ⟨0, Nat.zero_le _, rfl, rfl⟩
    case round =>
      obtain ⟨i, hi, rfl, rfl⟩ := hrel
      by_cases hlt : i < D.size
      · have hil : i < t.length := by omega
        obtain ⟨hb1, hb2, hnx⟩ := HST.out i hil hlt
        have HNX : Hid (numM (t.take (i + 1)) = numStep (numM (t.take i)) D[i]) := hnx
        have hnl := numM_le (t.take i)
        have HSTOP : Hid (200 < numM (t.take i) → numM t = numM (t.take i)) := num_stop t i
        obtain ⟨m, hm⟩ : ∃ m, m = numM (t.take i) := ⟨_, rfl⟩
        rw [← hm] at hnl HNX HSTOP ⊢
        clear hm hnx
        have hlti : (i : Int) < (D.size : Int) := by omega
        by_cases hm2 : m ≤ 200
        · have hm3 : (m : Int) ≤ 200 := by omega
          go_wp2
          go_round
          case rel =>
            refine ⟨i + 1, by omega, by go_num, ?_⟩
            rw [HNX.out]; unfold numStep; rw [if_pos hm2]
            have : ((m * 10 + (D[i].toNat - 48) : Nat) : Int) = (m : Int) * 10 + ((D[i].toNat : Int) - 48) := by omega
            rw [this]
          case measure => simp [intOf]; omega
        · have hm3 : ¬ (m : Int) ≤ 200 := by omega
          go_wp2
          go_ret
          rw [← HSTOP.out (by omega)]
          exact ⟨rfl, HR2.out, HG2.out⟩
      · obtain rfl : i = t.length := by omega
        have hlti : ¬ ((t.length : Nat) : Int) < (D.size : Int) := by omega
        rw [List.take_length]
        go_wp2
        go_ret
        exact ⟨rfl, HR2.out, HG2.out⟩
  · have hse : D.toList.isEmpty = false := by rw [empty_iff]; exact decide_eq_false h0
    by_cases h1 : 1 < D.size
    · have h1i : (1 : Int) < (D.size : Int) := by omega
      have h0s : 0 < D.size := by omega
      by_cases hz : ((D[0].toNat : Int) == 48) = true
      · have HB : Hid (numBad t = true) := by
          show numBad t = true
          have hd0 : D[0] = 48 := UInt8.toNat_inj.1 (by simp at hz; simp; omega)
          unfold numBad
          rw [HHD.out h0s, hd0]
          simp
          exact Or.inr (by omega)
        go_enter Tryz.func70, Tryz.ntmps70
        go_wp2_with fail
        refine hrun2.mono ?_
        rintro e w1 ⟨rfl, hr1, hg1⟩
        have hfail := fail_any b s (k + t.length) bad w1 hr1
        clear hrun2 hr1
        go_wp2_with fail
        refine hfail.mono ?_
        rintro e w2 ⟨rfl, hr2, hg2⟩
        have HR2 : Hid (Rd w2 b s (k + t.length) (bad || numBad t)) := by
          show Rd w2 b s (k + t.length) (bad || numBad t)
          rw [HB.out, Bool.or_true]; exact hr2
        have HG2 : Hid (w.grownBy w2 (some b)) := grown_trans hg1 hg2
        clear hfail hr2 hg1 hg2 HB
        go_wp2
        go_loop [4, 5] (fun nn ii => ∃ i : Nat, i ≤ t.length ∧ ii = .int .i64 (i : Int) ∧ nn = .int .i64 (numM (t.take i) : Int)) (fun _ ii => t.length - (intOf ii).toNat)
        case atStart => exact ⟨0, Nat.zero_le _, rfl, rfl⟩
        case round =>
          obtain ⟨i, hi, rfl, rfl⟩ := hrel
          by_cases hlt : i < D.size
          · have hil : i < t.length := by omega
            obtain ⟨hb1, hb2, hnx⟩ := HST.out i hil hlt
            have HNX : Hid (numM (t.take (i + 1)) = numStep (numM (t.take i)) D[i]) := hnx
            have hnl := numM_le (t.take i)
            have HSTOP : Hid (200 < numM (t.take i) → numM t = numM (t.take i)) := num_stop t i
            obtain ⟨m, hm⟩ : ∃ m, m = numM (t.take i) := ⟨_, rfl⟩
            rw [← hm] at hnl HNX HSTOP ⊢
            clear hm hnx
            have hlti : (i : Int) < (D.size : Int) := by omega
            by_cases hm2 : m ≤ 200
            · have hm3 : (m : Int) ≤ 200 := by omega
              go_wp2
              go_round
              case rel =>
                refine ⟨i + 1, by omega, by go_num, ?_⟩
                rw [HNX.out]; unfold numStep; rw [if_pos hm2]
                have : ((m * 10 + (D[i].toNat - 48) : Nat) : Int) = (m : Int) * 10 + ((D[i].toNat : Int) - 48) := by omega
                rw [this]
              case measure => simp [intOf]; omega
            · have hm3 : ¬ (m : Int) ≤ 200 := by omega
              go_wp2
              go_ret
              rw [← HSTOP.out (by omega)]
              exact ⟨rfl, HR2.out, HG2.out⟩
          · obtain rfl : i = t.length := by omega
            have hlti : ¬ ((t.length : Nat) : Int) < (D.size : Int) := by omega
            rw [List.take_length]
            go_wp2
            go_ret
            exact ⟨rfl, HR2.out, HG2.out⟩
      · have hzf : ((D[0].toNat : Int) == 48) = false := by simpa using hz
        have HB : Hid (numBad t = false) := by
          show numBad t = false
          have hd0 : ¬ D[0] = 48 := fun h => by rw [h] at hz; simp at hz
          have hne : t.isEmpty = false := by
            cases t with
            | nil => have e : D.size = 0 := hDs; omega
            | cons a l => rfl
          unfold numBad
          rw [HHD.out h0s, hne]
          simp [hd0]
        clear hz
        go_enter Tryz.func70, Tryz.ntmps70
        go_wp2_with fail
        refine hrun2.mono ?_
        rintro e w1 ⟨rfl, hr1, hg1⟩
        have HR2 : Hid (Rd w1 b s (k + t.length) (bad || numBad t)) := by
          show Rd w1 b s (k + t.length) (bad || numBad t)
          rw [HB.out, Bool.or_false]; exact hr1
        have HG2 : Hid (w.grownBy w1 (some b)) := hg1
        clear hrun2 hr1 hg1 HB
        go_wp2
        go_loop [4, 5] (fun nn ii => ∃ i : Nat, i ≤ t.length ∧ ii = .int .i64 (i : Int) ∧ nn = .int .i64 (numM (t.take i) : Int)) (fun _ ii => t.length - (intOf ii).toNat)
        case atStart => exact ⟨0, Nat.zero_le _, rfl, rfl⟩
        case round =>
          obtain ⟨i, hi, rfl, rfl⟩ := hrel
          by_cases hlt : i < D.size
          · have hil : i < t.length := by omega
            obtain ⟨hb1, hb2, hnx⟩ := HST.out i hil hlt
            have HNX : Hid (numM (t.take (i + 1)) = numStep (numM (t.take i)) D[i]) := hnx
            have hnl := numM_le (t.take i)
            have HSTOP : Hid (200 < numM (t.take i) → numM t = numM (t.take i)) := num_stop t i
            obtain ⟨m, hm⟩ : ∃ m, m = numM (t.take i) := ⟨_, rfl⟩
            rw [← hm] at hnl HNX HSTOP ⊢
            clear hm hnx
            have hlti : (i : Int) < (D.size : Int) := by omega
            by_cases hm2 : m ≤ 200
            · have hm3 : (m : Int) ≤ 200 := by omega
              go_wp2
              go_round
              case rel =>
                refine ⟨i + 1, by omega, by go_num, ?_⟩
                rw [HNX.out]; unfold numStep; rw [if_pos hm2]
                have : ((m * 10 + (D[i].toNat - 48) : Nat) : Int) = (m : Int) * 10 + ((D[i].toNat : Int) - 48) := by omega
                rw [this]
              case measure => simp [intOf]; omega
            · have hm3 : ¬ (m : Int) ≤ 200 := by omega
              go_wp2
              go_ret
              rw [← HSTOP.out (by omega)]
              exact ⟨rfl, HR2.out, HG2.out⟩
          · obtain rfl : i = t.length := by omega
            have hlti : ¬ ((t.length : Nat) : Int) < (D.size : Int) := by omega
            rw [List.take_length]
            go_wp2
            go_ret
            exact ⟨rfl, HR2.out, HG2.out⟩
    · have h1i : ¬ (1 : Int) < (D.size : Int) := by omega
      have HB : Hid (numBad t = false) := by
        show numBad t = false
        have hne : t.isEmpty = false := by
          cases t with
          | nil => have e : D.size = 0 := hDs; omega
          | cons a l => rfl
        unfold numBad
        rw [hne]
        simp
        intro h
        omega
      go_enter Tryz.func70, Tryz.ntmps70
      go_wp2_with fail
      refine hrun2.mono ?_
      rintro e w1 ⟨rfl, hr1, hg1⟩
      have HR2 : Hid (Rd w1 b s (k + t.length) (bad || numBad t)) := by
        show Rd w1 b s (k + t.length) (bad || numBad t)
        rw [HB.out, Bool.or_false]; exact hr1
      have HG2 : Hid (w.grownBy w1 (some b)) := hg1
      clear hrun2 hr1 hg1 HB
      go_wp2
      go_loop [4, 5] (fun nn ii => ∃ i : Nat, i ≤ t.length ∧ ii = .int .i64 (i : Int) ∧ nn = .int .i64 (numM (t.take i) : Int)) (fun _ ii => t.length - (intOf ii).toNat)
      case atStart => exact ⟨0, Nat.zero_le _, rfl, rfl⟩
      case round =>
        obtain ⟨i, hi, rfl, rfl⟩ := hrel
        by_cases hlt : i < D.size
        · have hil : i < t.length := by omega
          obtain ⟨hb1, hb2, hnx⟩ := HST.out i hil hlt
          have HNX : Hid (numM (t.take (i + 1)) = numStep (numM (t.take i)) D[i]) := hnx
          have hnl := numM_le (t.take i)
          have HSTOP : Hid (200 < numM (t.take i) → numM t = numM (t.take i)) := num_stop t i
          obtain ⟨m, hm⟩ : ∃ m, m = numM (t.take i) := ⟨_, rfl⟩
          rw [← hm] at hnl HNX HSTOP ⊢
          clear hm hnx
          have hlti : (i : Int) < (D.size : Int) := by omega
          by_cases hm2 : m ≤ 200
          · have hm3 : (m : Int) ≤ 200 := by omega
            go_wp2
            go_round
            case rel =>
              refine ⟨i + 1, by omega, by go_num, ?_⟩
              rw [HNX.out]; unfold numStep; rw [if_pos hm2]
              have : ((m * 10 + (D[i].toNat - 48) : Nat) : Int) = (m : Int) * 10 + ((D[i].toNat : Int) - 48) := by omega
              rw [this]
            case measure => simp [intOf]; omega
          · have hm3 : ¬ (m : Int) ≤ 200 := by omega
            go_wp2
            go_ret
            rw [← HSTOP.out (by omega)]
            exact ⟨rfl, HR2.out, HG2.out⟩
        · obtain rfl : i = t.length := by omega
          have hlti : ¬ ((t.length : Nat) : Int) < (D.size : Int) := by omega
          rw [List.take_length]
          go_wp2
          go_ret
          exact ⟨rfl, HR2.out, HG2.out⟩
end Go.Proofs.YtmbapmbpnnaanabGreat.Ld
namespace Go.Proofs.YtmbapmbpnnaanabGreat.Ld
open Go.RowKit

theorem sign32 (b : Nat) (s : ByteArray) (k : Nat) (bad : Bool) (w : World) (hs : s.size ≤ 1048576) (hr : Rd w b s k bad) :
    Calls Tryz.prog 43 #[.pointer (some ⟨b, 0, none⟩), .int .u8 32] w fun e w' => e = .returned (.tuple #[]) ∧ Rd w' b s (signM s 32 k bad).1 (signM s 32 k bad).2 ∧ w.grownBy w' (some b) := sign_any b s k bad 32 w hs hr
theorem sign58 (b : Nat) (s : ByteArray) (k : Nat) (bad : Bool) (w : World) (hs : s.size ≤ 1048576) (hr : Rd w b s k bad) :
    Calls Tryz.prog 43 #[.pointer (some ⟨b, 0, none⟩), .int .u8 58] w fun e w' => e = .returned (.tuple #[]) ∧ Rd w' b s (signM s 58 k bad).1 (signM s 58 k bad).2 ∧ w.grownBy w' (some b) := sign_any b s k bad 58 w hs hr
theorem sign10 (b : Nat) (s : ByteArray) (k : Nat) (bad : Bool) (w : World) (hs : s.size ≤ 1048576) (hr : Rd w b s k bad) :
    Calls Tryz.prog 43 #[.pointer (some ⟨b, 0, none⟩), .int .u8 10] w fun e w' => e = .returned (.tuple #[]) ∧ Rd w' b s (signM s 10 k bad).1 (signM s 10 k bad).2 ∧ w.grownBy w' (some b) := sign_any b s k bad 10 w hs hr

/-- A state, as it is read. -/
abbrev St := M2.ESt
def str (l : List UInt8) : Value := .string ⟨l.toArray⟩
/-- Its nine cells. -/
def St.cells (q : St) : Array Value := #[str q.en, str (q.sd.getD 0 []), str (q.sd.getD 1 []), str (q.sd.getD 2 []), str (q.sd.getD 3 []),
  .int .i64 (q.nx.getD 0 0 : Nat), .int .i64 (q.nx.getD 1 0 : Nat), .int .i64 (q.nx.getD 2 0 : Nat), .int .i64 (q.nx.getD 3 0 : Nat)]

/-- One letter's part of a line: what is read so far, the place, bad. -/
def lstep (s : ByteArray) (x : St × Nat × Bool) : St × Nat × Bool :=
  let a := signM s 32 x.2.1 x.2.2
  let wd := wordM s a.1 a.2
  let c := signM s 58 wd.2.1 (a.2 || wd.2.2)
  let t := run digB s.data.toList c.1
  (⟨x.1.en, x.1.sd ++ [wd.1], x.1.nx ++ [numM t]⟩, c.1 + t.length, c.2 || numBad t)
def lfirst (s : ByteArray) (k : Nat) (bad : Bool) : St × Nat × Bool :=
  let wd := wordM s k bad
  (⟨wd.1, [], []⟩, wd.2.1, bad || wd.2.2)
def lparts (s : ByteArray) (k : Nat) (bad : Bool) : Nat → St × Nat × Bool
  | 0 => lfirst s k bad
  | n + 1 => lstep s (lparts s k bad n)
def lineM (s : ByteArray) (k : Nat) (bad : Bool) : St × Nat × Bool :=
  let x := lparts s k bad 4
  let a := signM s 10 x.2.1 x.2.2
  (x.1, a.1, a.2)

theorem signM_le (s : ByteArray) (c : UInt8) (k : Nat) (bad : Bool) (hk : k ≤ s.size) : (signM s c k bad).1 ≤ s.size := by
  unfold signM
  split
  · rename_i h
    exact sees_lt h
  · exact hk
theorem wordM_le (s : ByteArray) (k : Nat) (bad : Bool) (hk : k ≤ s.size) : (wordM s k bad).2.1 ≤ s.size := by
  unfold wordM
  split
  · rename_i h
    exact sees_lt h
  · have := run_le letB s.data.toList k (by simpa using hk)
    simpa using this
theorem numK_le (s : ByteArray) (k : Nat) (hk : k ≤ s.size) : k + (run digB s.data.toList k).length ≤ s.size := by
  have := run_le digB s.data.toList k (by simpa using hk)
  simpa using this
theorem lparts_le (s : ByteArray) (k : Nat) (bad : Bool) (hk : k ≤ s.size) : ∀ n, (lparts s k bad n).2.1 ≤ s.size
  | 0 => wordM_le s k bad hk
  | n + 1 => numK_le s _ (signM_le s 58 _ _ (wordM_le s _ _ (signM_le s 32 _ _ (lparts_le s k bad hk n))))
theorem lparts_len (s : ByteArray) (k : Nat) (bad : Bool) : ∀ n, (lparts s k bad n).1.sd.length = n ∧ (lparts s k bad n).1.nx.length = n
  | 0 => ⟨rfl, rfl⟩
  | n + 1 => by
    have := lparts_len s k bad n
    simp [lparts, lstep, this.1, this.2]

theorem blk_cell {w : World} {q : Nat} {a : Array Value} {t : TypeId} (h : w.heap[q]? = some (.cells a t (0, 0))) (i : Nat) (v : Value) (hi : a[i]? = some v) : w.cell? ⟨q, i, none⟩ = some v := by
  rw [cell_of_row w q i a t (0, 0) h]; exact hi
theorem blk_free {w : World} {q : Nat} {a : Array Value} {t : TypeId} (h : w.heap[q]? = some (.cells a t (0, 0))) (i : Nat) : w.frozen? ⟨q, i, none⟩ = false := by
  simp [World.frozen?, h]
theorem blk_set {w : World} {q : Nat} {a : Array Value} {t : TypeId} (h : w.heap[q]? = some (.cells a t (0, 0))) (i : Nat) (v : Value) : (w.setCell ⟨q, i, none⟩ v).heap[q]? = some (.cells (a.setIfInBounds i v) t (0, 0)) := by
  simp [World.setCell, Array.getElem?_modify, h]
theorem blk_other {w : World} {q b : Nat} {x : Option Obj} (h : w.heap[b]? = x) (i : Nat) (v : Value) (hne : b ≠ q) : (w.setCell ⟨q, i, none⟩ v).heap[b]? = x := by
  rw [Below.heap_setCell _ _ _ _ hne]; exact h
theorem blk_grown {w w' : World} {q : Nat} {x : Obj} {row : Option Nat} (h : w.heap[q]? = some x) (hg : w.grownBy w' row) (hne : some q ≠ row) : w'.heap[q]? = some x :=
  (hg.block q (Array.getElem?_eq_some_iff.1 h).1 hne).trans h

def zero9 : Array Value := #[.string ⟨#[]⟩, .string ⟨#[]⟩, .string ⟨#[]⟩, .string ⟨#[]⟩, .string ⟨#[]⟩, .int .i64 0, .int .i64 0, .int .i64 0, .int .i64 0]

theorem len1 {α : Type} {l : List α} (h : l.length = 1) : ∃ a, l = [a] := by
  match l, h with | [a], _ => exact ⟨a, rfl⟩
theorem len2 {α : Type} {l : List α} (h : l.length = 2) : ∃ a b, l = [a, b] := by
  match l, h with | [a, b], _ => exact ⟨a, b, rfl⟩
theorem len3 {α : Type} {l : List α} (h : l.length = 3) : ∃ a b c, l = [a, b, c] := by
  match l, h with | [a, b, c], _ => exact ⟨a, b, c, rfl⟩

theorem heap_two (w : World) (o p : Obj) : ((w.alloc o).alloc p).heap[w.heap.size]? = some o ∧ ((w.alloc o).alloc p).heap[w.heap.size + 1]? = some p := by
  constructor
  · show ((w.heap.push o).push p)[w.heap.size]? = _
    simp only [Array.getElem?_push, Array.size_push]; rw [if_neg (by omega), if_pos trivial]
  · show ((w.heap.push o).push p)[w.heap.size + 1]? = _
    simp only [Array.getElem?_push, Array.size_push]; rw [if_pos trivial]

set_option maxHeartbeats 2000000 in
set_option maxRecDepth 100000 in
theorem line_any (b : Nat) (s : ByteArray) (k : Nat) (bad : Bool) (w : World) (hs : s.size ≤ 1048576) (hk : k ≤ s.size) (hr : Rd w b s k bad) :
    Calls Tryz.prog 37 #[.pointer (some ⟨b, 0, none⟩)] w fun e w' => e = .returned (.agg (lineM s k bad).1.cells) ∧ Rd w' b s (lineM s k bad).2.1 (lineM s k bad).2.2 ∧ w.grownBy w' (some b) := by
  have hblt := hr.lt
  have h2 := heap_two w (.cells zero9 75 (0, 0)) (.cells zero9 75 (0, 0))
  go_enter Tryz.func37, Tryz.ntmps37
  go_wp2_with fail
  refine (word_any b s k bad _ hs hk ((hr.alloc _).alloc _)).mono ?_
  rintro e w1 ⟨rfl, hr1, hg1⟩
  have hR1 := blk_grown h2.1 hg1 (by simp; omega)
  have hQ1 := blk_grown h2.2 hg1 (by simp; omega)
  have q0 := blk_cell hQ1 0 _ rfl
  have q1 := blk_free hQ1 0
  have HR1 : Hid (w1.heap[w.heap.size]? = some (.cells zero9 75 (0, 0))) := hR1
  have HQ1 : Hid (w1.heap[w.heap.size + 1]? = some (.cells zero9 75 (0, 0))) := hQ1
  have HRd : Hid (Rd w1 b s (lparts s k bad 0).2.1 (lparts s k bad 0).2.2) := hr1
  have HG : Hid (w.grownBy w1 (some b)) := grown_trans (grown_trans (World.grownBy_alloc _ _ _) (World.grownBy_alloc _ _ _)) hg1
  clear hR1 hQ1 hr1 hg1 h2 hr
  go_wp2
  go_loopw [4] (fun v wr => ∃ n : Nat, n ≤ 4 ∧ v = .int .i64 (n : Int) ∧ Rd wr b s (lparts s k bad n).2.1 (lparts s k bad n).2.2 ∧ wr.heap[w.heap.size]? = some (.cells zero9 75 (0, 0)) ∧
      wr.heap[w.heap.size + 1]? = some (.cells (lparts s k bad n).1.cells 75 (0, 0)) ∧ w.grownBy wr (some b)) (fun v _ => 4 - (intOf v).toNat)
  case atStart =>
    refine ⟨0, by omega, rfl, ?_, ?_, ?_, ?_⟩
    · exact blk_other HRd.out _ _ (by omega)
    · exact blk_other HR1.out _ _ (by omega)
    · exact blk_set HQ1.out _ _
    · exact grown_new HG.out (grown_set _ _ _ _) (fun g hg => by cases hg; omega)
  case round =>
    obtain ⟨n, hn, rfl, hrn, hRn, hQn, hgn⟩ := hrel
    by_cases h4 : n < 4
    · have hle := lparts_le s k bad hk n
      have hln := lparts_len s k bad n
      obtain ⟨x, hx⟩ : ∃ x, x = lparts s k bad n := ⟨_, rfl⟩
      rw [← hx] at hrn hQn hle hln
      have HX : Hid (lparts s k bad (n + 1) = lstep s x) := by rw [hx]; exact rfl
      clear hx q0 q1 HR1 HQ1 HRd HG
      obtain ⟨⟨fin, sd, nx⟩, kk, bd⟩ := x
      simp only at hle hln hrn hQn
      have hQl : w.heap.size + 1 < wr.heap.size := (Array.getElem?_eq_some_iff.1 hQn).1
      match n, hln, h4 with
      | 0, hln, h4 =>
        obtain rfl := List.eq_nil_of_length_eq_zero hln.1
        obtain rfl := List.eq_nil_of_length_eq_zero hln.2
        clear hln
        go_wp2_with fail
        refine (sign32 b s kk bd wr hs hrn).mono ?_
        rintro e w2 ⟨rfl, hr2, hg2⟩
        go_wp2_with fail
        refine (word_any b s _ _ w2 hs (signM_le s 32 kk bd hle) hr2).mono ?_
        rintro e w3 ⟨rfl, hr3, hg3⟩
        have hR3 := blk_grown (blk_grown hRn hg2 (by simp; omega)) hg3 (by simp; omega)
        have hQ3 := blk_grown (blk_grown hQn hg2 (by simp; omega)) hg3 (by simp; omega)
        have hG3 : w.grownBy w3 (some b) := grown_trans (grown_trans hgn hg2) hg3
        have q0 := blk_cell hQ3 1 _ rfl
        have q1 := blk_free hQ3 1
        have hk3 := wordM_le s _ (signM s 32 kk bd).2 (signM_le s 32 kk bd hle)
        go_wp2_with fail
        refine (sign58 b s _ _ (w3.setCell ⟨w.heap.size + 1, 1, none⟩ _) hs (blk_other hr3 _ _ (by omega))).mono ?_
        rintro e w4 ⟨rfl, hr4, hg4⟩
        have hR4 := blk_grown (blk_other (q := w.heap.size + 1) hR3 _ _ (by omega)) hg4 (by simp; omega)
        have hQ4 := blk_grown (blk_set hQ3 _ _) hg4 (by simp; omega)
        have hG4 : w.grownBy w4 (some b) := grown_trans (grown_new hG3 (grown_set _ _ _ _) (fun g hg => by cases hg; omega)) hg4
        go_wp2_with fail
        refine (number_any b s _ _ w4 hs (signM_le s 58 _ _ hk3) hr4).mono ?_
        rintro e w5 ⟨rfl, hr5, hg5⟩
        have hR5 := blk_grown hR4 hg5 (by simp; omega)
        have hQ5 := blk_grown hQ4 hg5 (by simp; omega)
        have hG5 : w.grownBy w5 (some b) := grown_trans hG4 hg5
        clear q0 q1
        have q0 := blk_cell hQ5 5 _ rfl
        have q1 := blk_free hQ5 5
        have HR5 : Hid _ := hR5
        have HQ5 : Hid _ := hQ5
        clear hR5 hQ5 hR4 hQ4 hR3 hQ3 hRn hQn
        go_wp2
        go_roundw
        case rel =>
          refine ⟨1, by omega, rfl, ?_, ?_, ?_, ?_⟩
          · rw [HX.out]; exact blk_other hr5 _ _ (by omega)
          · exact blk_other HR5.out _ _ (by omega)
          · rw [HX.out]; exact blk_set HQ5.out _ _
          · exact grown_new hG5 (grown_set _ _ _ _) (fun g hg => by cases hg; omega)
        case measure => simp [intOf]
      | 1, hln, h4 =>
        obtain ⟨a0, rfl⟩ := len1 hln.1
        obtain ⟨m0, rfl⟩ := len1 hln.2
        clear hln
        go_wp2_with fail
        refine (sign32 b s kk bd wr hs hrn).mono ?_
        rintro e w2 ⟨rfl, hr2, hg2⟩
        go_wp2_with fail
        refine (word_any b s _ _ w2 hs (signM_le s 32 kk bd hle) hr2).mono ?_
        rintro e w3 ⟨rfl, hr3, hg3⟩
        have hR3 := blk_grown (blk_grown hRn hg2 (by simp; omega)) hg3 (by simp; omega)
        have hQ3 := blk_grown (blk_grown hQn hg2 (by simp; omega)) hg3 (by simp; omega)
        have hG3 : w.grownBy w3 (some b) := grown_trans (grown_trans hgn hg2) hg3
        have q0 := blk_cell hQ3 2 _ rfl
        have q1 := blk_free hQ3 2
        have hk3 := wordM_le s _ (signM s 32 kk bd).2 (signM_le s 32 kk bd hle)
        go_wp2_with fail
        refine (sign58 b s _ _ (w3.setCell ⟨w.heap.size + 1, 2, none⟩ _) hs (blk_other hr3 _ _ (by omega))).mono ?_
        rintro e w4 ⟨rfl, hr4, hg4⟩
        have hR4 := blk_grown (blk_other (q := w.heap.size + 1) hR3 _ _ (by omega)) hg4 (by simp; omega)
        have hQ4 := blk_grown (blk_set hQ3 _ _) hg4 (by simp; omega)
        have hG4 : w.grownBy w4 (some b) := grown_trans (grown_new hG3 (grown_set _ _ _ _) (fun g hg => by cases hg; omega)) hg4
        go_wp2_with fail
        refine (number_any b s _ _ w4 hs (signM_le s 58 _ _ hk3) hr4).mono ?_
        rintro e w5 ⟨rfl, hr5, hg5⟩
        have hR5 := blk_grown hR4 hg5 (by simp; omega)
        have hQ5 := blk_grown hQ4 hg5 (by simp; omega)
        have hG5 : w.grownBy w5 (some b) := grown_trans hG4 hg5
        clear q0 q1
        have q0 := blk_cell hQ5 6 _ rfl
        have q1 := blk_free hQ5 6
        have HR5 : Hid _ := hR5
        have HQ5 : Hid _ := hQ5
        clear hR5 hQ5 hR4 hQ4 hR3 hQ3 hRn hQn
        go_wp2
        go_roundw
        case rel =>
          refine ⟨2, by omega, rfl, ?_, ?_, ?_, ?_⟩
          · rw [HX.out]; exact blk_other hr5 _ _ (by omega)
          · exact blk_other HR5.out _ _ (by omega)
          · rw [HX.out]; exact blk_set HQ5.out _ _
          · exact grown_new hG5 (grown_set _ _ _ _) (fun g hg => by cases hg; omega)
        case measure => simp [intOf]
      | 2, hln, h4 =>
        obtain ⟨a0, a1, rfl⟩ := len2 hln.1
        obtain ⟨m0, m1, rfl⟩ := len2 hln.2
        clear hln
        go_wp2_with fail
        refine (sign32 b s kk bd wr hs hrn).mono ?_
        rintro e w2 ⟨rfl, hr2, hg2⟩
        go_wp2_with fail
        refine (word_any b s _ _ w2 hs (signM_le s 32 kk bd hle) hr2).mono ?_
        rintro e w3 ⟨rfl, hr3, hg3⟩
        have hR3 := blk_grown (blk_grown hRn hg2 (by simp; omega)) hg3 (by simp; omega)
        have hQ3 := blk_grown (blk_grown hQn hg2 (by simp; omega)) hg3 (by simp; omega)
        have hG3 : w.grownBy w3 (some b) := grown_trans (grown_trans hgn hg2) hg3
        have q0 := blk_cell hQ3 3 _ rfl
        have q1 := blk_free hQ3 3
        have hk3 := wordM_le s _ (signM s 32 kk bd).2 (signM_le s 32 kk bd hle)
        go_wp2_with fail
        refine (sign58 b s _ _ (w3.setCell ⟨w.heap.size + 1, 3, none⟩ _) hs (blk_other hr3 _ _ (by omega))).mono ?_
        rintro e w4 ⟨rfl, hr4, hg4⟩
        have hR4 := blk_grown (blk_other (q := w.heap.size + 1) hR3 _ _ (by omega)) hg4 (by simp; omega)
        have hQ4 := blk_grown (blk_set hQ3 _ _) hg4 (by simp; omega)
        have hG4 : w.grownBy w4 (some b) := grown_trans (grown_new hG3 (grown_set _ _ _ _) (fun g hg => by cases hg; omega)) hg4
        go_wp2_with fail
        refine (number_any b s _ _ w4 hs (signM_le s 58 _ _ hk3) hr4).mono ?_
        rintro e w5 ⟨rfl, hr5, hg5⟩
        have hR5 := blk_grown hR4 hg5 (by simp; omega)
        have hQ5 := blk_grown hQ4 hg5 (by simp; omega)
        have hG5 : w.grownBy w5 (some b) := grown_trans hG4 hg5
        clear q0 q1
        have q0 := blk_cell hQ5 7 _ rfl
        have q1 := blk_free hQ5 7
        have HR5 : Hid _ := hR5
        have HQ5 : Hid _ := hQ5
        clear hR5 hQ5 hR4 hQ4 hR3 hQ3 hRn hQn
        go_wp2
        go_roundw
        case rel =>
          refine ⟨3, by omega, rfl, ?_, ?_, ?_, ?_⟩
          · rw [HX.out]; exact blk_other hr5 _ _ (by omega)
          · exact blk_other HR5.out _ _ (by omega)
          · rw [HX.out]; exact blk_set HQ5.out _ _
          · exact grown_new hG5 (grown_set _ _ _ _) (fun g hg => by cases hg; omega)
        case measure => simp [intOf]
      | 3, hln, h4 =>
        obtain ⟨a0, a1, a2, rfl⟩ := len3 hln.1
        obtain ⟨m0, m1, m2, rfl⟩ := len3 hln.2
        clear hln
        go_wp2_with fail
        refine (sign32 b s kk bd wr hs hrn).mono ?_
        rintro e w2 ⟨rfl, hr2, hg2⟩
        go_wp2_with fail
        refine (word_any b s _ _ w2 hs (signM_le s 32 kk bd hle) hr2).mono ?_
        rintro e w3 ⟨rfl, hr3, hg3⟩
        have hR3 := blk_grown (blk_grown hRn hg2 (by simp; omega)) hg3 (by simp; omega)
        have hQ3 := blk_grown (blk_grown hQn hg2 (by simp; omega)) hg3 (by simp; omega)
        have hG3 : w.grownBy w3 (some b) := grown_trans (grown_trans hgn hg2) hg3
        have q0 := blk_cell hQ3 4 _ rfl
        have q1 := blk_free hQ3 4
        have hk3 := wordM_le s _ (signM s 32 kk bd).2 (signM_le s 32 kk bd hle)
        go_wp2_with fail
        refine (sign58 b s _ _ (w3.setCell ⟨w.heap.size + 1, 4, none⟩ _) hs (blk_other hr3 _ _ (by omega))).mono ?_
        rintro e w4 ⟨rfl, hr4, hg4⟩
        have hR4 := blk_grown (blk_other (q := w.heap.size + 1) hR3 _ _ (by omega)) hg4 (by simp; omega)
        have hQ4 := blk_grown (blk_set hQ3 _ _) hg4 (by simp; omega)
        have hG4 : w.grownBy w4 (some b) := grown_trans (grown_new hG3 (grown_set _ _ _ _) (fun g hg => by cases hg; omega)) hg4
        go_wp2_with fail
        refine (number_any b s _ _ w4 hs (signM_le s 58 _ _ hk3) hr4).mono ?_
        rintro e w5 ⟨rfl, hr5, hg5⟩
        have hR5 := blk_grown hR4 hg5 (by simp; omega)
        have hQ5 := blk_grown hQ4 hg5 (by simp; omega)
        have hG5 : w.grownBy w5 (some b) := grown_trans hG4 hg5
        clear q0 q1
        have q0 := blk_cell hQ5 8 _ rfl
        have q1 := blk_free hQ5 8
        have HR5 : Hid _ := hR5
        have HQ5 : Hid _ := hQ5
        clear hR5 hQ5 hR4 hQ4 hR3 hQ3 hRn hQn
        go_wp2
        go_roundw
        case rel =>
          refine ⟨4, by omega, rfl, ?_, ?_, ?_, ?_⟩
          · rw [HX.out]; exact blk_other hr5 _ _ (by omega)
          · exact blk_other HR5.out _ _ (by omega)
          · rw [HX.out]; exact blk_set HQ5.out _ _
          · exact grown_new hG5 (grown_set _ _ _ _) (fun g hg => by cases hg; omega)
        case measure => simp [intOf]
    · obtain rfl : n = 4 := by omega
      clear q0 q1 HR1 HQ1 HRd HG
      go_wp2_with fail
      refine (sign10 b s _ _ wr hs hrn).mono ?_
      rintro e w2 ⟨rfl, hr2, hg2⟩
      have hR2 := blk_grown hRn hg2 (by simp; omega)
      have hQ2 := blk_grown hQn hg2 (by simp; omega)
      have HR2 : Hid (Rd w2 b s (lineM s k bad).2.1 (lineM s k bad).2.2) := hr2
      have HG2 : Hid (w.grownBy w2 (some b)) := grown_trans hgn hg2
      obtain ⟨x, hx⟩ : ∃ x, x = (lparts s k bad 4).1 := ⟨_, rfl⟩
      have HX : Hid ((lineM s k bad).1 = x) := by rw [hx]; exact rfl
      rw [← hx] at hQ2
      clear hx hRn hQn hrn hr2
      obtain ⟨S0, S1, S2, S3, S4, N0, N1, N2, N3, hc⟩ : ∃ (S0 S1 S2 S3 S4 : ByteArray) (N0 N1 N2 N3 : Int), x.cells = #[.string S0, .string S1, .string S2, .string S3, .string S4, .int .i64 N0, .int .i64 N1, .int .i64 N2, .int .i64 N3] := ⟨_, _, _, _, _, _, _, _, _, rfl⟩
      rw [hc] at hQ2
      have HC : Hid ((lineM s k bad).1.cells = #[.string S0, .string S1, .string S2, .string S3, .string S4, .int .i64 N0, .int .i64 N1, .int .i64 N2, .int .i64 N3]) := by
        show (lineM s k bad).1.cells = _
        rw [HX.out, hc]
      clear hc HX
      have a0 : w2.cell? ⟨w.heap.size + 1, 0, none⟩ = some (.string S0) := blk_cell hQ2 0 _ rfl
      have b0 : w2.cell? ⟨w.heap.size, 0, none⟩ = some (.string ⟨#[]⟩) := blk_cell hR2 0 _ rfl
      have f0 := blk_free hR2 0
      have a1 : w2.cell? ⟨w.heap.size + 1, 1, none⟩ = some (.string S1) := blk_cell hQ2 1 _ rfl
      have b1 : w2.cell? ⟨w.heap.size, 1, none⟩ = some (.string ⟨#[]⟩) := blk_cell hR2 1 _ rfl
      have f1 := blk_free hR2 1
      have a2 : w2.cell? ⟨w.heap.size + 1, 2, none⟩ = some (.string S2) := blk_cell hQ2 2 _ rfl
      have b2 : w2.cell? ⟨w.heap.size, 2, none⟩ = some (.string ⟨#[]⟩) := blk_cell hR2 2 _ rfl
      have f2 := blk_free hR2 2
      have a3 : w2.cell? ⟨w.heap.size + 1, 3, none⟩ = some (.string S3) := blk_cell hQ2 3 _ rfl
      have b3 : w2.cell? ⟨w.heap.size, 3, none⟩ = some (.string ⟨#[]⟩) := blk_cell hR2 3 _ rfl
      have f3 := blk_free hR2 3
      have a4 : w2.cell? ⟨w.heap.size + 1, 4, none⟩ = some (.string S4) := blk_cell hQ2 4 _ rfl
      have b4 : w2.cell? ⟨w.heap.size, 4, none⟩ = some (.string ⟨#[]⟩) := blk_cell hR2 4 _ rfl
      have f4 := blk_free hR2 4
      have a5 : w2.cell? ⟨w.heap.size + 1, 5, none⟩ = some (.int .i64 N0) := blk_cell hQ2 5 _ rfl
      have b5 : w2.cell? ⟨w.heap.size, 5, none⟩ = some (.int .i64 0) := blk_cell hR2 5 _ rfl
      have f5 := blk_free hR2 5
      have a6 : w2.cell? ⟨w.heap.size + 1, 6, none⟩ = some (.int .i64 N1) := blk_cell hQ2 6 _ rfl
      have b6 : w2.cell? ⟨w.heap.size, 6, none⟩ = some (.int .i64 0) := blk_cell hR2 6 _ rfl
      have f6 := blk_free hR2 6
      have a7 : w2.cell? ⟨w.heap.size + 1, 7, none⟩ = some (.int .i64 N2) := blk_cell hQ2 7 _ rfl
      have b7 : w2.cell? ⟨w.heap.size, 7, none⟩ = some (.int .i64 0) := blk_cell hR2 7 _ rfl
      have f7 := blk_free hR2 7
      have a8 : w2.cell? ⟨w.heap.size + 1, 8, none⟩ = some (.int .i64 N3) := blk_cell hQ2 8 _ rfl
      have b8 : w2.cell? ⟨w.heap.size, 8, none⟩ = some (.int .i64 0) := blk_cell hR2 8 _ rfl
      have f8 := blk_free hR2 8
      have HRR : Hid _ := hR2
      clear hR2 hQ2
      go_wp2
      refine bodyPost_ret (v := .agg #[.string S0, .string S1, .string S2, .string S3, .string S4, .int .i64 N0, .int .i64 N1, .int .i64 N2, .int .i64 N3]) (by simp [results, Tryz.results37, go_sem, b0, b1, b2, b3, b4, b5, b6, b7, b8]) rfl ⟨by rw [HC.out], ?_, ?_⟩
      · have hbn : b ≠ w.heap.size := by omega
        exact blk_other (blk_other (blk_other (blk_other (blk_other (blk_other (blk_other (blk_other (blk_other HR2.out _ _ hbn) _ _ hbn) _ _ hbn) _ _ hbn) _ _ hbn) _ _ hbn) _ _ hbn) _ _ hbn) _ _ hbn
      · have hn : ∀ g, some w.heap.size = some g → w.heap.size ≤ g := fun g hg => by cases hg; omega
        exact grown_new (grown_new (grown_new (grown_new (grown_new (grown_new (grown_new (grown_new (grown_new HG2.out (grown_set _ _ _ _) hn) (grown_set _ _ _ _) hn) (grown_set _ _ _ _) hn) (grown_set _ _ _ _) hn) (grown_set _ _ _ _) hn) (grown_set _ _ _ _) hn) (grown_set _ _ _ _) hn) (grown_set _ _ _ _) hn) (grown_set _ _ _ _) hn
end Go.Proofs.YtmbapmbpnnaanabGreat.Ld
namespace Go.Proofs.YtmbapmbpnnaanabGreat.Ld
open Go.RowKit
attribute [local go_sem ↓] Go.wp_at_zero Go.wp_at_succ

theorem Tryz.info75 : (Tryz.prog.info? 75).map (fun i => (i.zero, i.size, i.bytes)) = some (some (.agg zero9), 9, 112) := by kernel_rfl

def flat (sts : List St) : List Value := sts.flatMap fun q => q.cells.toList
theorem flat_snoc (sts : List St) (q : St) : flat (sts ++ [q]) = flat sts ++ q.cells.toList := by simp [flat]

/-- The states that a text is, from k on: f more lines at the most. -/
def readM (s : ByteArray) : Nat → Nat → List St → Option (List St)
  | 0, k, acc => if k < s.size then none else some acc
  | f + 1, k, acc => if k < s.size then (if acc.length = 200 then none else if (lineM s k false).2.2 = true then none else readM s f (lineM s k false).2.1 (acc ++ [(lineM s k false).1])) else some acc

theorem signM_ge (s : ByteArray) (c : UInt8) (k : Nat) (bad : Bool) : k ≤ (signM s c k bad).1 := by
  unfold signM
  split <;> simp
theorem signM_ok (s : ByteArray) (c : UInt8) (k : Nat) (bad : Bool) (h : (signM s c k bad).2 = false) : (signM s c k bad).1 = k + 1 ∧ s.data.toList[k]? = some c ∧ bad = false := by
  unfold signM at h ⊢
  split at h
  · rename_i hc
    rw [if_pos hc]
    unfold seesB at hc
    rw [Bool.and_eq_true] at hc
    exact ⟨rfl, of_decide_eq_true hc.2, h⟩
  · cases h
theorem wordM_ge (s : ByteArray) (k : Nat) (bad : Bool) : k ≤ (wordM s k bad).2.1 := by
  unfold wordM
  split <;> simp
theorem lparts_ge (s : ByteArray) (k : Nat) (bad : Bool) : ∀ n, k ≤ (lparts s k bad n).2.1
  | 0 => wordM_ge _ _ _
  | n + 1 => by
    have h1 := lparts_ge s k bad n
    obtain ⟨x, hx⟩ : ∃ x, x = lparts s k bad n := ⟨_, rfl⟩
    rw [← hx] at h1
    simp only [lparts, ← hx, lstep]
    have h2 := signM_ge s 32 x.2.1 x.2.2
    have h3 := wordM_ge s (signM s 32 x.2.1 x.2.2).1 (signM s 32 x.2.1 x.2.2).2
    have h4 := signM_ge s 58 (wordM s (signM s 32 x.2.1 x.2.2).1 (signM s 32 x.2.1 x.2.2).2).2.1 ((signM s 32 x.2.1 x.2.2).2 || (wordM s (signM s 32 x.2.1 x.2.2).1 (signM s 32 x.2.1 x.2.2).2).2.2)
    omega
theorem lineM_gt (s : ByteArray) (k : Nat) (bad : Bool) (h : (lineM s k bad).2.2 = false) : k < (lineM s k bad).2.1 := by
  have h1 := lparts_ge s k bad 4
  have h2 := signM_ok s 10 _ _ h
  show k < (signM s 10 _ _).1
  rw [h2.1]
  omega
theorem lineM_le (s : ByteArray) (k : Nat) (bad : Bool) (hk : k ≤ s.size) : (lineM s k bad).2.1 ≤ s.size := signM_le s 10 _ _ (lparts_le s k bad hk 4)

theorem own_form {w : World} {base : Nat} {e : TypeId} {size : Nat} {v : Value} {n : Nat} {xs : List Value} (h : w.ownsRow base e size v n xs) : ∃ a cap, v = .slice a n cap := by
  rcases h.2 with ⟨rfl, rfl⟩ | ⟨g, cap, cur, rfl, _⟩
  · exact ⟨_, _, rfl⟩
  · exact ⟨_, _, rfl⟩
theorem own_base {w : World} {base base' : Nat} {e : TypeId} {size : Nat} {v : Value} {n : Nat} {xs : List Value} (h : w.ownsRow base e size v n xs) (hb : base' ≤ base) : w.ownsRow base' e size v n xs := by
  refine ⟨h.1, ?_⟩
  rcases h.2 with h2 | ⟨g, cap, cur, rfl, hg, r⟩
  · exact .inl h2
  · exact .inr ⟨g, cap, cur, rfl, Nat.le_trans hb hg, r⟩

theorem below_grown {w w1 : World} {row : Option Nat} (h : w.grownBy w1 row) (hr : ∀ g, row = some g → w.heap.size ≤ g) : Below w.heap.size w w1 :=
  (Below.refl w.heap.size w).grown h (Nat.le_refl _) hr

theorem readM_stop (s : ByteArray) (f k : Nat) (sts : List St) (h : ¬ k < s.size) : readM s f k sts = some sts := by
  cases f <;> simp [readM, h]
theorem readM_200 (s : ByteArray) (f k : Nat) (sts : List St) (h : k < s.size) (h2 : sts.length = 200) : readM s f k sts = none := by
  cases f <;> simp [readM, h, h2]
theorem readM_bad (s : ByteArray) (f k : Nat) (sts : List St) (h : k < s.size) (h2 : (lineM s k false).2.2 = true) : readM s f k sts = none := by
  cases f <;> simp [readM, h, h2]
theorem readM_step (s : ByteArray) (f k : Nat) (sts : List St) (h : k < s.size) (hf : s.size - k ≤ f) (h2 : ¬ sts.length = 200) (h3 : (lineM s k false).2.2 = false) :
    ∃ f', f = f' + 1 ∧ readM s f' (lineM s k false).2.1 (sts ++ [(lineM s k false).1]) = readM s f k sts := by
  match f, hf with
  | 0, hf => omega
  | f' + 1, hf => exact ⟨f', rfl, by simp [readM, h, h2, h3]⟩

theorem below_dN {B : Nat} {a w : World} (h : Below B a w) (n : Nat) : Below B a (w.drewN n) := ⟨h.os, h.tape, h.output, h.size, h.block⟩

def ReadPost (s : ByteArray) (w : World) (e : Ending) (w' : World) : Prop :=
  Below w.heap.size w w' ∧ (match readM s s.size 0 [] with
    | none => e = .returned (.tuple #[.slice none 0 0, .bool false])
    | some sts => sts.length ≤ 200 ∧ ∃ v, e = .returned (.tuple #[v, .bool (decide (0 < sts.length))]) ∧ w'.ownsRow w.heap.size 75 9 v sts.length (flat sts))

set_option maxHeartbeats 2000000 in
set_option maxRecDepth 100000 in
theorem readStates_any (s : ByteArray) (w : World) (hs : s.size ≤ 1048576) : Calls Tryz.prog 17 #[.string s] w fun e w' => ReadPost s w e w' := by
  obtain ⟨i0, hinf, hz0, hz1, hz2⟩ := info_parts Tryz.info75
  have hnew := new_any s w
  go_enter Tryz.func17, Tryz.ntmps17
  go_wp2_with fail
  refine hnew.mono ?_
  rintro e w0 ⟨rfl, hb0⟩
  have hsz0 := hb0.size
  clear hnew
  go_wp2_with fail
  obtain ⟨B, hB⟩ : ∃ B, B = w0.heap.size := ⟨_, rfl⟩
  rw [← hB]
  have HHB : Hid (B = w0.heap.size) := hB
  have hwB : w.heap.size ≤ B := by rw [hB]; exact hsz0
  clear hB
  go_loopw [5] (fun v wr => ∃ (f kk : Nat) (sts : List St), wr.ownsRow (B + 1) 75 9 v sts.length (flat sts) ∧ Rd wr B s kk false ∧ kk ≤ s.size ∧ readM s f kk sts = readM s s.size 0 [] ∧ s.size - kk ≤ f ∧
      sts.length ≤ 200 ∧ Below w.heap.size w wr) (fun _ wr => s.size - kOf wr B)
  case atStart =>
    refine ⟨s.size, 0, [], World.ownsRow_nil _ _ _ _, ?_, by omega, rfl, by omega, by simp, ?_⟩
    · rw [HHB.out]; exact heap_alloc_new w0 _
    · exact hb0.alloc hsz0 _
  case round =>
    obtain ⟨f, kk, sts, hown, hrd, hkk, hM, hf, hl, hbl⟩ := hrel
    obtain ⟨a0, cap0, rfl⟩ := own_form hown
    have hszr := hrd.lt
    have HRD : Hid (Rd wr B s kk false) := hrd
    have HM : Hid (readM s f kk sts = readM s s.size 0 []) := hM
    have hleft := left_any B s kk false wr hs hkk hrd
    clear hM
    by_cases hlt : kk < s.size
    · have hpos : (0 : Int) < (s.size : Int) - (kk : Int) := by omega
      go_wp2_with fail
      refine hleft.mono ?_
      rintro e w5 ⟨rfl, n5, rfl⟩
      clear hleft
      by_cases h200 : sts.length = 200
      · have h200i : (sts.length : Int) = 200 := by omega
        have e := HM.out
        rw [readM_200 s f kk sts hlt h200] at e
        have HE : Hid (none = readM s s.size 0 []) := e
        clear e
        go_wp2_with fail
        go_ret2
        refine ⟨below_dN hbl _, ?_⟩
        rw [← HE.out]
        rfl
      · have h200i : ¬ (sts.length : Int) = 200 := by omega
        have hline := line_any B s kk false (wr.drewN n5) hs hkk (hrd.drewN n5)
        obtain ⟨q, hq⟩ : ∃ q, q = lineM s kk false := ⟨_, rfl⟩
        rw [← hq] at hline
        obtain ⟨⟨q, k', bd⟩, rfl⟩ : ∃ q', q' = q := ⟨q, rfl⟩
        obtain ⟨S0, S1, S2, S3, S4, N0, N1, N2, N3, hc⟩ : ∃ (S0 S1 S2 S3 S4 : ByteArray) (N0 N1 N2 N3 : Int), q.cells = #[.string S0, .string S1, .string S2, .string S3, .string S4, .int .i64 N0, .int .i64 N1, .int .i64 N2, .int .i64 N3] := ⟨_, _, _, _, _, _, _, _, _, rfl⟩
        simp only [hc] at hline
        have HQ : Hid ((q, k', bd) = lineM s kk false) := hq
        have HC : Hid (q.cells = #[.string S0, .string S1, .string S2, .string S3, .string S4, .int .i64 N0, .int .i64 N1, .int .i64 N2, .int .i64 N3]) := hc
        clear hq hc
        go_wp2_with fail
        refine hline.mono ?_
        rintro e w2 ⟨rfl, hr2, hg2⟩
        have hbl2 : Below w.heap.size w w2 := (below_dN hbl n5).grown hg2 (by simp; omega) (fun g hg => by cases hg; omega)
        have hsz2 := hg2.size
        have hownd : (wr.drewN n5).ownsRow (B + 1) 75 9 (.slice a0 sts.length cap0) sts.length (flat sts) := hown
        have hown2 := hownd.kept hg2 (by
          rcases hv : (Value.slice a0 sts.length cap0).ownBlock with _ | g
          · exact Or.inl rfl
          · right; intro e; have := (hown.lt g hv).1; cases e; omega)
        have hlt2 := hr2.lt
        have hne2 : ¬ B = w2.heap.size := by omega
        have hbad := fun o => isBad_any B s k' bd (w2.alloc o) (hr2.alloc o)
        have HBAD : Hid _ := hbad
        clear hbad
        cases bd with
        | true =>
          have HE : Hid (none = readM s s.size 0 []) := by
            show none = _
            rw [← HM.out, readM_bad s f kk sts hlt (by rw [← HQ.out])]
          go_wp2_with (go_at_call 38; refine (HBAD.out _).mono ?_; rintro e w' ⟨rfl, rfl⟩)
          go_ret2
          refine ⟨hbl2.alloc (by omega) _, ?_⟩
          rw [← HE.out]
          rfl
        | false =>
          have hvb : ∀ g, (Value.slice a0 sts.length cap0).ownBlock = some g → B + 1 ≤ g := fun g hg => (hown.lt g hg).1
          clear hown hownd hline hrd
          have HR2 : Hid (Rd w2 B s k' false) := hr2
          have HB2 : Hid (Below w.heap.size w w2) := hbl2
          clear hr2 hbl2 hbl hg2
          go_wp2_with (first | (go_at_call 38; refine (HBAD.out _).mono ?_; rintro e w' ⟨rfl, rfl⟩) | (at_builtin; refine wpList_append_lies _ rfl _ _ 63 rfl (B + 1) 75 i0 _ 9 112 Tryz.underlying63 hinf hz0 hz1 hz2 rfl (by omega) (.slice a0 sts.length cap0) sts.length (flat sts) rfl ((hown2.alloc _).alloc _) ⟨w2.heap.size + 1, 0, none⟩ 1 1 [.string S0, .string S1, .string S2, .string S3, .string S4, .int .i64 N0, .int .i64 N1, .int .i64 N2, .int .i64 N3] rfl rfl ?c1 ?c2 (by omega) (by unfold maxLen; omega) (by omega) (by simp; omega) (w2.heap.size + 2) (by simp) ?_))
          case c1 => exact World.news_of_block (cs := #[.string S0, .string S1, .string S2, .string S3, .string S4, .int .i64 N0, .int .i64 N1, .int .i64 N2, .int .i64 N3]) (t := 75) (fr := (0, 0)) (heap_two w2 _ _).2
          case c2 => intro u hu; simp at hu; rcases hu with rfl | rfl | rfl | rfl | rfl | rfl | rfl | rfl | rfl <;> rfl
          intro gg cap w3 hown3 hgrow hat hltt
          have HR3 : Hid (Rd w3 B s k' false) := Rd.grown ((HR2.out.alloc _).alloc _) hgrow (fun e => by have := hvb _ e.symm; omega)
          have HB3 : Hid (Below w.heap.size w w3) := ((HB2.out.alloc (by omega) _).alloc (by simp; omega) _).grown hgrow (by simp; omega) (fun g hg => by have := hvb g hg; omega)
          have HO3 : Hid (w3.ownsRow (B + 1) 75 9 (.slice (some ⟨gg, 0, none⟩) (sts.length + 1) cap) (sts ++ [q]).length (flat (sts ++ [q]))) := by
            show w3.ownsRow (B + 1) 75 9 (.slice (some ⟨gg, 0, none⟩) (sts.length + 1) cap) (sts ++ [q]).length (flat (sts ++ [q]))
            rw [flat_snoc, HC.out, List.length_append]
            exact hown3
          clear hown3 hgrow hat hltt hown2 hinf hz0 hz1 hz2
          go_wp2
          have hk' := lineM_le s kk false hkk
          have hgt := lineM_gt s kk false (by rw [← HQ.out])
          obtain ⟨f', rfl, hst⟩ := readM_step s f kk sts hlt hf h200 (by rw [← HQ.out])
          rw [← HQ.out] at hk' hgt hst
          go_roundw
          case rel => exact ⟨f', k', sts ++ [q], HO3.out, HR3.out, hk', hst.trans HM.out, by simp only at hgt; omega, by simp; omega, HB3.out⟩
          case measure => exact lt_meas HRD.out HR3.out hgt hlt
    · have hpos : ¬ (0 : Int) < (s.size : Int) - (kk : Int) := by omega
      have e := HM.out
      rw [readM_stop s f kk sts hlt] at e
      have HE : Hid (some sts = readM s s.size 0 []) := e
      clear e
      go_wp2_with fail
      refine hleft.mono ?_
      rintro e w5 ⟨rfl, n5, rfl⟩
      clear hleft
      go_wp2_with fail
      go_ret2
      refine ⟨below_dN hbl _, ?_⟩
      rw [← HE.out]
      refine ⟨hl, _, ?_, own_base hown (by omega)⟩
      simp
end Go.Proofs.YtmbapmbpnnaanabGreat.Ld
