import Derived.Test.YtmbapmbpnnaanabDoorD
namespace Go.Proofs.YtmbapmbpnnaanabDoor
open Go.RowKit

theorem skip45 (b : Nat) (s : ByteArray) (k : Nat) (bad : Bool) (w : World) (hs : s.size ≤ 1048576) (hr : Rd w b s k bad) :
    Calls Tryd.prog 28 #[.pointer (some ⟨b, 0, none⟩), .int .u8 45] w fun e w' => e = .returned (.bool (seesB s 45 k bad)) ∧ Rd w' b s (if seesB s 45 k bad = true then k + 1 else k) bad ∧ w.grownBy w' (some b) := skip_any b s k bad 45 w hs hr

/-- What 'readWord' reads from k on: the word, the place behind it, whether it is none. -/
def wordM (s : ByteArray) (k : Nat) (bad : Bool) : List UInt8 × Nat × Bool :=
  if seesB s 45 k bad = true then ([], k + 1, false) else (run letB s.data.toList k, k + (run letB s.data.toList k).length, (run letB s.data.toList k).isEmpty)

theorem str_empty (t : List UInt8) : (⟨t.toArray⟩ : ByteArray).toList.isEmpty = t.isEmpty := by rw [toList_data]

set_option maxHeartbeats 400000 in
theorem word_any (b : Nat) (s : ByteArray) (k : Nat) (bad : Bool) (w : World) (hs : s.size ≤ 1048576) (hk : k ≤ s.size) (hr : Rd w b s k bad) :
    Calls Tryd.prog 19 #[.pointer (some ⟨b, 0, none⟩)] w fun e w' => e = .returned (.string ⟨(wordM s k bad).1.toArray⟩) ∧
      Rd w' b s (wordM s k bad).2.1 (bad || (wordM s k bad).2.2) ∧ w.grownBy w' (some b) := by
  have hskip := skip45 b s k bad w hs hr
  cases hS : seesB s 45 k bad with
  | true =>
    have HM : Hid (wordM s k bad = ([], k + 1, false)) := by
      show wordM s k bad = _
      unfold wordM
      rw [hS, if_pos rfl]
    rw [hS] at hskip
    clear hS hr
    go_enter Tryd.func19, Tryd.ntmps19
    go_wp2_with fail
    refine hskip.mono ?_
    rintro e w1 ⟨rfl, hr1, hg1⟩
    have HR1 : Hid (Rd w1 b s (k + 1) bad) := hr1
    clear hskip hr1
    go_wp2_with fail
    go_ret
    rw [HM.out]
    exact ⟨rfl, by simpa using HR1.out, hg1⟩
  | false =>
    obtain ⟨t, ht⟩ : ∃ t, t = run letB s.data.toList k := ⟨_, rfl⟩
    have HM : Hid (wordM s k bad = (t, k + t.length, t.isEmpty)) := by
      show wordM s k bad = _
      unfold wordM
      rw [hS, if_neg (by simp), ← ht]
    rw [hS] at hskip
    have hrun := fun wx h => run_said b s k bad wx hs hk h
    rw [← ht] at hrun
    clear hS hr ht
    go_enter Tryd.func19, Tryd.ntmps19
    go_wp2_with fail
    refine hskip.mono ?_
    rintro e w1 ⟨rfl, hr1, hg1⟩
    have hrun1 := hrun w1 hr1
    clear hskip hr1 hrun
    go_wp2_with fail
    refine hrun1.mono ?_
    rintro e w2 ⟨rfl, hr2, hg2⟩
    have hg3 : w.grownBy w2 (some b) := grown_trans hg1 hg2
    clear hrun1 hg1 hg2
    cases he : t.isEmpty with
    | true =>
      have hse : (⟨t.toArray⟩ : ByteArray).toList.isEmpty = true := by rw [str_empty]; exact he
      have hfail := fail_any b s (k + t.length) bad w2 hr2
      clear hr2
      go_wp2_with fail
      refine hfail.mono ?_
      rintro e w3 ⟨rfl, hr3, hg4⟩
      have HR3 : Hid (Rd w3 b s (k + t.length) true) := hr3
      clear hfail hr3
      go_wp2_with fail
      go_ret
      rw [HM.out, he]
      exact ⟨rfl, by simpa using HR3.out, grown_trans hg3 hg4⟩
    | false =>
      have hse : (⟨t.toArray⟩ : ByteArray).toList.isEmpty = false := by rw [str_empty]; exact he
      have HR2 : Hid (Rd w2 b s (k + t.length) bad) := hr2
      clear hr2
      go_wp2_with fail
      go_ret
      rw [HM.out, he]
      exact ⟨rfl, by simpa using HR2.out, hg3⟩
end Go.Proofs.YtmbapmbpnnaanabDoor
