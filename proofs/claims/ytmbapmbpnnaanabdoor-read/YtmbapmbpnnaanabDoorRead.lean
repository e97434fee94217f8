import Derived.Test.YtmbapmbpnnaanabDoorZ
namespace Go.Proofs.YtmbapmbpnnaanabDoor
open Go.RowKit

set_option maxHeartbeats 1000000 in
theorem read_any (s : ByteArray) (w : World) (hs : s.size ≤ 1048576) (htab : Lib.TabIs Tryd.prog w powName .u64 Lib.pow10Tab) :
    Calls Tryd.prog 4 #[.string s] w fun e w' => e = .returned (.bool true) ∧ Below w.heap.size w w' := by
  have hT := Lib.tabBelow_of_tabIs htab
  have HT : Hid (Lib.TabBelow Tryd.prog w.heap.size w powName .u64 Lib.pow10Tab) := hT
  have hone := load_any oneS w (by decide)
  unfold oneS at hone
  clear hT htab
  go_enter Tryd.func4, Tryd.ntmps4
  go_wp2_with fail
  refine hone.mono ?_
  rintro e w1 ⟨hb, hpost⟩
  rcases hpost with ⟨rfl, hne⟩ | ⟨m, sts, rfl, -, -⟩
  · exact absurd rfl hne
  have hload := load_any s w1 hs
  clear hone
  go_wp2_with fail
  refine hload.mono ?_
  rintro e w2 ⟨hb2, hpost⟩
  have hb3 : Below w.heap.size w w2 := hb.trans (hb2.mono hb.size)
  clear hload hb2
  rcases hpost with ⟨rfl, -⟩ | ⟨m2, sts2, rfl, hmach, htx⟩
  · go_wp2_with fail
    go_ret
    exact ⟨rfl, hb3⟩
  · obtain ⟨v, hm, hst, h0, hl, hin⟩ := hmach
    have htext := text_any m2 v sts2 w2 hm hst h0 hl hin (by rw [htx, ← size_data]; exact hs) (HT.out.on hb3).here
    have hse : (⟨(textM sts2).toArray⟩ : ByteArray) = s := by rw [htx]
    rw [hse] at htext
    clear hm hst h0 hl hin htx hse
    go_wp2_with fail
    refine htext.mono ?_
    rintro e w3 ⟨rfl, hb4⟩
    clear htext
    go_wp2_with fail
    go_ret
    exact ⟨rfl, hb3.trans (hb4.mono hb3.size)⟩

set_option maxHeartbeats 1000000 in
theorem law_any (s : ByteArray) (w : World) (hm : s.size ≤ maxLen) (htab : Lib.TabIs Tryd.prog w powName .u64 Lib.pow10Tab) :
    Calls Tryd.prog 3 #[.string s] w fun e w' => e = .returned (.bool true) ∧ Below w.heap.size w w' := by
  unfold maxLen at hm
  by_cases hs : s.size ≤ 1048576
  · have hread := read_any s w hs htab
    have hsi : ¬ (1048576 : Int) < (s.size : Int) := by omega
    clear htab
    go_enter Tryd.func3, Tryd.ntmps3
    go_wp2_with fail
    refine hread.mono ?_
    rintro e w1 ⟨rfl, hb⟩
    clear hread
    go_wp2_with fail
    go_ret
    exact ⟨rfl, hb⟩
  · have hsi : (1048576 : Int) < (s.size : Int) := by omega
    clear htab
    go_enter Tryd.func3, Tryd.ntmps3
    go_wp2_with fail
    go_ret
    exact ⟨rfl, Below.refl _ _⟩
end Go.Proofs.YtmbapmbpnnaanabDoor
