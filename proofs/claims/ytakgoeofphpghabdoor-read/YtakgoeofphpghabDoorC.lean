import Derived.Test.YtakgoeofphpghabDoorB
namespace Go.Proofs.YtakgoeofphpghabDoor
open Go.RowKit

abbrev NumPost (b : Nat) (s : ByteArray) (k : Nat) (bad : Bool) (t : List UInt8) (w : World) (e : Ending) (w' : World) : Prop :=
  e = .returned (.int .i64 (numM t : Int)) ∧ Rd w' b s (k + t.length) (bad || numBad t) ∧ w.grownBy w' (some b)

section
variable {b : Nat} {s : ByteArray} {k p : Nat} {bad : Bool} {t : List UInt8} {w wr : World} {n : Nat}
theorem fin_two (ht : t = run digB s.data.toList k) (hp : p = k + t.length) (hr : Rd wr b s p bad) (hg : w.grownBy wr (some b)) (h : (s.extract k p).toList.isEmpty = true) :
    NumPost b s k bad t w (.returned (.int .i64 (numM t : Int))) (((wr.drewN n).setCell ⟨b, 2, none⟩ (.bool true)).setCell ⟨b, 2, none⟩ (.bool true)) := by
  refine ⟨rfl, ?_, grown_trans hg (grown_trans (grown_drewN _ _ _) (grown_trans (grown_set _ _ _ _) (grown_set _ _ _ _)))⟩
  rw [nb_empty ht hp h, Bool.or_true, ← hp]
  exact (hr.drewN n).set2.set2
theorem fin_emp (ht : t = run digB s.data.toList k) (hp : p = k + t.length) (hr : Rd wr b s p bad) (hg : w.grownBy wr (some b)) (h : (s.extract k p).toList.isEmpty = true) :
    NumPost b s k bad t w (.returned (.int .i64 (numM t : Int))) ((wr.drewN n).setCell ⟨b, 2, none⟩ (.bool true)) := by
  refine ⟨rfl, ?_, grown_trans hg (grown_trans (grown_drewN _ _ _) (grown_set _ _ _ _))⟩
  rw [nb_empty ht hp h, Bool.or_true, ← hp]
  exact (hr.drewN n).set2
theorem fin_zero (ht : t = run digB s.data.toList k) (hp : p = k + t.length) (hr : Rd wr b s p bad) (hg : w.grownBy wr (some b)) (h1 : (1 : Int) < ((p - k : Nat) : Int))
    (h0 : 0 < (s.extract k p).size) (h : ((((s.extract k p)[0]'h0).toNat : Int) == 48) = true) :
    NumPost b s k bad t w (.returned (.int .i64 (numM t : Int))) ((wr.drewN n).setCell ⟨b, 2, none⟩ (.bool true)) := by
  refine ⟨rfl, ?_, grown_trans hg (grown_trans (grown_drewN _ _ _) (grown_set _ _ _ _))⟩
  rw [nb_zero ht hp h1 h0 h, Bool.or_true, ← hp]
  exact (hr.drewN n).set2
theorem fin_not (ht : t = run digB s.data.toList k) (hp : p = k + t.length) (hr : Rd wr b s p bad) (hg : w.grownBy wr (some b)) (he : (s.extract k p).toList.isEmpty = false)
    (h0 : 0 < (s.extract k p).size) (h : ((((s.extract k p)[0]'h0).toNat : Int) == 48) = false) :
    NumPost b s k bad t w (.returned (.int .i64 (numM t : Int))) (wr.drewN n) := by
  refine ⟨rfl, ?_, grown_trans hg (grown_drewN _ _ _)⟩
  rw [nb_not ht hp he h0 h, Bool.or_false, ← hp]
  exact hr.drewN n
theorem fin_one (ht : t = run digB s.data.toList k) (hp : p = k + t.length) (hr : Rd wr b s p bad) (hg : w.grownBy wr (some b)) (he : (s.extract k p).toList.isEmpty = false)
    (h1 : ((p - k : Nat) : Int) ≤ 1) :
    NumPost b s k bad t w (.returned (.int .i64 (numM t : Int))) (wr.drewN n) := by
  refine ⟨rfl, ?_, grown_trans hg (grown_drewN _ _ _)⟩
  rw [nb_one ht hp he h1, Bool.or_false, ← hp]
  exact hr.drewN n
end

set_option maxHeartbeats 1000000 in
theorem number_any (b : Nat) (s : ByteArray) (k : Nat) (bad : Bool) (w : World) (hs : s.size ≤ 1048576) (hk : k ≤ s.size) (hr : Rd w b s k bad) :
    Calls Tryd.prog 18 #[.pointer (some ⟨b, 0, none⟩)] w fun e w' => e = .returned (.int .i64 (numM (run digB s.data.toList k) : Int)) ∧
      Rd w' b s (k + (run digB s.data.toList k).length) (bad || numBad (run digB s.data.toList k)) ∧ w.grownBy w' (some b) := by
  obtain ⟨t, ht⟩ : ∃ t, t = run digB s.data.toList k := ⟨_, rfl⟩
  rw [← ht]
  have hle : k + t.length ≤ s.size := by have := run_le digB s.data.toList k (by simpa using hk); rw [← ht] at this; simpa using this
  have hin : ∀ j, j ≤ t.length → (j < t.length ↔ ∃ c, s.data.toList[k + j]? = some c ∧ digB c = true) := fun j hj => by rw [ht] at hj ⊢; exact run_iff _ _ _ _ hj
  have htk : ∀ j c, j < t.length → s.data.toList[k + j]? = some c → t.take (j + 1) = t.take j ++ [c] := fun j c hj hc => by rw [ht] at hj ⊢; exact run_take _ _ _ _ _ hj hc
  have HT : Hid (t = run digB s.data.toList k) := ht
  have HR : Hid (Rd w b s k bad) := hr
  have Hin : Hid (∀ j, j ≤ t.length → (j < t.length ↔ ∃ c, s.data.toList[k + j]? = some c ∧ digB c = true)) := hin
  have Htk : Hid (∀ j c, j < t.length → s.data.toList[k + j]? = some c → t.take (j + 1) = t.take j ++ [c]) := htk
  have c1 := hr.c1
  clear ht hr hin htk
  go_enter Tryd.func18, Tryd.ntmps18
  go_wp2
  go_loopw [4] (fun v wr => ∃ j : Nat, j ≤ t.length ∧ v = .int .i64 (numM (t.take j) : Int) ∧ Rd wr b s (k + j) bad ∧ w.grownBy wr (some b)) (fun _ wr => s.size - kOf wr b)
  case atStart => exact ⟨0, Nat.zero_le _, rfl, HR.out, World.grownBy.refl _ _⟩
  case round =>
    obtain ⟨j, hj, rfl, hrj, hgj⟩ := hrel
    obtain ⟨p, hp⟩ : ∃ p, p = k + j := ⟨_, rfl⟩
    rw [← hp] at hrj
    have c0 := hrj.c0
    have c1 := hrj.c1
    have c2 := hrj.c2
    have f1 := hrj.f1
    have f2 := hrj.f2
    have HR2 : Hid (Rd wr b s p bad) := hrj
    have HG2 : Hid (w.grownBy wr (some b)) := hgj
    have hnl := numM_le (t.take j)
    have HP : Hid (p = k + j) := hp
    have hps : p ≤ s.size := by omega
    have hkp : k ≤ p := by omega
    have hkpi : (k : Int) ≤ (p : Int) := by omega
    have hpsi : (p : Int) ≤ (s.size : Int) := by omega
    clear hrj hgj HR hp
    by_cases hlt : p < s.size
    · have Hg : Hid (s.data.toList[p]? = some s[p]) := by
        show s.data.toList[p]? = some s[p]
        rw [List.getElem?_eq_getElem (by simpa using hlt)]; rfl
      have hi : (p : Int) < (s.size : Int) := by omega
      have hi0 : (0 : Int) ≤ (p : Int) := by omega
      have hd : decide ((p : Int) < (s.size : Int)) = true := decide_eq_true hi
      by_cases hdg : digB s[p] = true
      · have hjt : j < t.length := (Hin.out j hj).2 ⟨s[p], by rw [← HP.out]; exact Hg.out, hdg⟩
        have htt := Htk.out j s[p] hjt (by rw [← HP.out]; exact Hg.out)
        have hb1 : (48 : Int) ≤ (s[p].toNat : Int) ∧ (s[p].toNat : Int) ≤ 57 := by
          have := of_decide_eq_true hdg
          omega
        obtain ⟨hb1, hb2⟩ := hb1
        have HN : Hid (numM (t.take (j + 1)) = numStep (numM (t.take j)) s[p]) := by
          show numM (t.take (j + 1)) = _
          rw [htt, numM_snoc]
        clear htt
        obtain ⟨m, hm⟩ : ∃ m, m = numM (t.take j) := ⟨_, rfl⟩
        rw [← hm] at hnl HN ⊢
        have HM : Hid (m = numM (t.take j)) := hm
        clear hm
        by_cases hm2 : m ≤ 200
        · have hm3 : (m : Int) ≤ 200 := by omega
          go_wp2
          go_quiet ((go_at_call 25; exact Calls.quiet_of_same (dig_any _ _)))
          go_wp2
          go_quiet (fail)
          go_wp2
          go_roundw
          case rel =>
            refine ⟨j + 1, by omega, ?_, ?_, ?_⟩
            · rw [HN.out]; unfold numStep; rw [if_pos hm2]
              have : ((m * 10 + (s[p].toNat - 48) : Nat) : Int) = (m : Int) * 10 + ((s[p].toNat : Int) - 48) := by omega
              rw [this]
            · have e : k + (j + 1) = p + 1 := by have := HP.out; omega
              rw [e]
              exact (HR2.out.drewN _).set1 (p + 1)
            · exact grown_trans (grown_trans HG2.out (grown_drewN _ _ _)) (grown_set _ _ _ _)
          case measure => exact lt_meas HR2.out ((HR2.out.drewN _).set1 (p + 1)) (by omega) hlt
        · have hm3 : ¬ (m : Int) ≤ 200 := by omega
          go_wp2
          go_quiet ((go_at_call 25; exact Calls.quiet_of_same (dig_any _ _)))
          go_wp2
          go_roundw
          case rel =>
            refine ⟨j + 1, by omega, ?_, ?_, ?_⟩
            · rw [HN.out]; unfold numStep; rw [if_neg hm2]
            · have e : k + (j + 1) = p + 1 := by have := HP.out; omega
              rw [e]
              exact (HR2.out.drewN _).set1 (p + 1)
            · exact grown_trans (grown_trans HG2.out (grown_drewN _ _ _)) (grown_set _ _ _ _)
          case measure => exact lt_meas HR2.out ((HR2.out.drewN _).set1 (p + 1)) (by omega) hlt
      · have hdf : digB s[p] = false := by simpa using hdg
        have hjt : ¬ j < t.length := fun h => by
          obtain ⟨c, h1, h2⟩ := (Hin.out j hj).1 h
          rw [← HP.out, Hg.out] at h1
          cases h1
          exact hdg h2
        obtain rfl : j = t.length := by omega
        rw [List.take_length]
        clear hjt hdg Hg hnl
        go_wp2
        go_quiet ((go_at_call 25; exact Calls.quiet_of_same (dig_any _ _)))
        go_wp2
        go_quiet (fail)
        go_wp2
        all_goals go_ret
        · exact fin_two HT.out HP.out HR2.out HG2.out (by assumption)
        · exact fin_emp HT.out HP.out HR2.out HG2.out (by assumption)
        · exact fin_emp HT.out HP.out HR2.out HG2.out (by assumption)
        · exact fin_zero HT.out HP.out HR2.out HG2.out (by assumption) (by simp only [ByteArray.size_extract]; omega) (by assumption)
        · exact fin_not HT.out HP.out HR2.out HG2.out (by assumption) (by simp only [ByteArray.size_extract]; omega) (by assumption)
        · exact fin_one HT.out HP.out HR2.out HG2.out (by assumption) (by assumption)
    · have hd : decide ((p : Int) < (s.size : Int)) = false := decide_eq_false (by omega)
      have hd2 : decide (p < s.size) = false := decide_eq_false (by omega)
      obtain rfl : j = t.length := by have := HP.out; omega
      rw [List.take_length]
      clear hnl
      go_wp2
      go_quiet ((go_at_call 25; exact Calls.quiet_of_same (dig_any _ _)))
      go_wp2
      go_quiet (fail)
      go_wp2
      all_goals go_ret
      · exact fin_two HT.out HP.out HR2.out HG2.out (by assumption)
      · exact fin_emp HT.out HP.out HR2.out HG2.out (by assumption)
      · exact fin_emp HT.out HP.out HR2.out HG2.out (by assumption)
      · exact fin_zero HT.out HP.out HR2.out HG2.out (by assumption) (by simp only [ByteArray.size_extract]; omega) (by assumption)
      · exact fin_not HT.out HP.out HR2.out HG2.out (by assumption) (by simp only [ByteArray.size_extract]; omega) (by assumption)
      · exact fin_one HT.out HP.out HR2.out HG2.out (by assumption) (by assumption)
end Go.Proofs.YtakgoeofphpghabDoor
